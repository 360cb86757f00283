"""What hands do at beats however far."""

from agohands.rows import Going, row_of
from agohands.ways import Ways
from agohands.webs import most_ago


def doing_at(web, hand, beat):
    """What the hand does at the beat."""
    return Ways(web).doing(hand, beat)


def _scene(ways, beat):
    return tuple([ways.doing(hand, beat) for hand in range(len(ways.web[2]))])


def scene_at(web, beat):
    """The tuple of what all hands do at the beat."""
    return _scene(Ways(web), beat)


def past_at(web, beat):
    """The scenes at the last beats below this one, as many as the most ago, the latest last."""
    ways = Ways(web)
    return [_scene(ways, then) for then in range(beat - most_ago(web), beat)]


def doings_from(web, hand, first, count):
    """The list of what the hand does at so many beats from the first on."""
    # Going on from what stands right below leads back no oftener than the
    # web's rules look back, however many are asked.
    return row_of(Going(web).on(past_at(web, first), first, count), hand)
