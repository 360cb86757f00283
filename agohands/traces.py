"""Traces: how doings lead back to their beginnings."""

from agohands.errors import TooLong
from agohands.ways import Ways, copies_in
from agohands.webs import rule_at

MOST_STEPS = 500


def _copied(web, hand, beat):
    """The (hand, beat) that is copied there, or None."""
    if beat < 0:
        return None
    what = web[2][hand][rule_at(web, hand, beat)][2]
    if what[0] == "own":
        return None
    return what[1], beat - what[2]


def trace(web, hand, beat, *, most=MOST_STEPS):
    """The list of all (hand, beat) from this one back to where it began."""
    told = []
    place = (hand, beat)
    while place is not None:
        if len(told) == most:
            raise TooLong(f"the trace has more than {most} tuples")
        told.append(place)
        place = _copied(web, place[0], place[1])
    return told


def source(web, hand, beat):
    """Where the doing began: (hand, beat, turn, copies)."""
    ways = Ways(web)
    parts, begun_by, begun_at = ways.back(hand, beat)
    return begun_by, max(begun_at, -1), ways.turn_of_all(parts), copies_in(parts)
