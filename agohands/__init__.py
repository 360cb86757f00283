"""Agohands: hands that do what others did some beats ago."""
