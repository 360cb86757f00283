"""What hands do at beats however far."""

from agohands.leaps import Leaps
from agohands.rows import Going, row_of, scenes_before
from agohands.ways import Ways


def doing_at(web, hand, beat):
    """What the hand does at the beat."""
    return Ways(web).doing(hand, beat)


def scene_at(web, beat):
    """The tuple of what all hands do at the beat."""
    ways = Ways(web)
    return tuple([ways.doing(hand, beat) for hand in range(len(web[2]))])


def past_at(web, beat):
    """The scenes at the last beats below this one, as many as the most ago, the latest last."""
    scenes = scenes_before(web)
    # A web that copies nothing looks back on nothing, so there is no past to go on from.
    if not scenes:
        return scenes
    return Leaps(web).on(scenes, 0, beat)


def doings_from(web, hand, first, count):
    """The list of what the hand does at so many beats from the first on."""
    return row_of(Going(web).on(past_at(web, first), first, count), hand)
