"""What is copied for ever: the copies that a hand keeps at each beat."""

from agohands.explains import MOST_AGO, fits_among
from agohands.rounds import going_round
from agohands.rows import row_of


def kept_copies(web, hand, *, most=MOST_AGO):
    """The list of all copies (hand, ago, turn), ago from 1 to most, that the hand keeps."""
    scenes, first, again = going_round(web)
    # From most beats behind first on what was done that long ago comes again,
    # too: one round from there shows all there is.
    circle = scenes[first:]
    scenes = scenes + (circle * (most // again + 1))[:most]
    rows = [row_of(scenes, its) for its in range(len(web[2]))]
    return fits_among((web[0], web[1], rows), hand, most)
