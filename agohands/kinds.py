"""What kind of thing something is: asked of anything, raising nothing."""

LAST_BEAT = 10 ** 18


def is_whole(thing):
    """Whether it is a whole number: True and False are none."""
    return type(thing) == int


def is_from_to(thing, low, high):
    """Whether it is a whole number from low to high."""
    return is_whole(thing) and low <= thing <= high


def is_from(thing, low):
    """Whether it is a whole number from low on."""
    return is_whole(thing) and thing >= low


def is_beat(thing):
    """Whether it is a beat from 0 on."""
    return is_from_to(thing, 0, LAST_BEAT)


def is_tuple(thing, least, most):
    """Whether it is a tuple of least to most things."""
    return type(thing) == tuple and least <= len(thing) <= most


def is_list(thing, least, most):
    """Whether it is a list of least to most things."""
    return type(thing) == list and least <= len(thing) <= most


def is_text(thing):
    """Whether it is a text."""
    return type(thing) == str
