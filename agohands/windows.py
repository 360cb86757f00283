"""Windows: all of a web's past that what comes hangs on."""

from agohands.errors import NoWindow
from agohands.far import past_at
from agohands.kinds import is_from_to, is_tuple
from agohands.rounds import going_round, least_round
from agohands.rows import Going, row_of
from agohands.turns import are_doings
from agohands.webs import clock, most_ago


def window_at(web, beat):
    """The window of the web at the beat."""
    latest_first = past_at(web, beat)[::-1]
    pasts = [tuple(row_of(latest_first, hand)) for hand in range(len(web[2]))]
    return beat % clock(web), tuple(pasts)


def may_be_window(web, thing):
    """Whether it may be a window of the web."""
    if not is_tuple(thing, 2, 2):
        return False
    rest, pasts = thing
    count = len(web[2])
    if not is_from_to(rest, 0, clock(web) - 1) or not is_tuple(pasts, count, count):
        return False
    ago = most_ago(web)
    return all([are_doings(web[0], past, ago, ago) for past in pasts])


def scene_of(web, window):
    """The scene that the window makes at its own beat."""
    if not may_be_window(web, window):
        raise NoWindow("it may be no window of the web")
    rest, pasts = window
    latest_first = list(zip(*pasts))
    return Going(web).on(latest_first[::-1], rest, 1)[0]


def next_window(web, window):
    """The window at the beat behind the window's."""
    scene = scene_of(web, window)
    rest, pasts = window
    ago = most_ago(web)
    moved_on = [(doing, *past)[:ago] for doing, past in zip(scene, pasts)]
    return (rest + 1) % clock(web), tuple(moved_on)


def web_round(web):
    """The least (first, round) of the web's windows."""
    _, first, again = going_round(web)
    return first, again


def hand_round(web, hand):
    """The least (first, round) of the hand's row."""
    scenes, first, again = going_round(web)
    return least_round(row_of(scenes, hand), first, again)


def scene_round(web):
    """The least (first, round) of the web's scenes."""
    scenes, first, again = going_round(web)
    return least_round(scenes, first, again)
