"""Papers: what is told of rounds and sources, so that it can be looked through."""

from agohands.kinds import LAST_BEAT, is_beat, is_from, is_from_to, is_tuple
from agohands.traces import source
from agohands.turns import is_turn
from agohands.ways import Ways, copies_in
from agohands.webs import is_web
from agohands.windows import may_be_window, web_round, window_at

MOST_ROWS = 2000


def round_paper(web, hand):
    """The paper of the web's round: (web, hand, first, round, window)."""
    first, again = web_round(web)
    return web, hand, first, again, window_at(web, first)


def _is_web_and_hand(web, hand):
    return is_web(web) and is_from_to(hand, 0, len(web[2]) - 1)


def _is_round_paper(thing):
    """Whether it has the form of a paper of a round."""
    if not is_tuple(thing, 5, 5):
        return False
    web, hand, first, again, window = thing
    if not _is_web_and_hand(web, hand) or not is_from(first, 0) or not is_from(again, 1):
        return False
    return first + again <= LAST_BEAT and may_be_window(web, window)


def round_fault(paper):
    """The first fault of a paper of a round, or None."""
    if not _is_round_paper(paper):
        return ("form",)
    web, _, first, again, window = paper
    if window_at(web, first) != window:
        return ("begins",)
    if window_at(web, first + again) != window:
        return ("comes",)
    return None


def source_paper(web, hand, beat):
    """The paper of a doing's source: (web, hand, beat, doing, source, path)."""
    ways = Ways(web)
    parts, _, _ = ways.back(hand, beat)
    path = [(tuple(rows), times) for rows, times in parts if rows]
    return web, hand, beat, ways.doing(hand, beat), source(web, hand, beat), path


def _is_source(web, thing):
    """Whether it has the form of a source."""
    if not is_tuple(thing, 4, 4):
        return False
    hand, beat, turn, copies = thing
    if not is_from_to(hand, 0, len(web[2]) - 1) or not is_from(beat, -1):
        return False
    return is_turn(web[0], turn) and is_from(copies, 0)


def _is_row(thing):
    return is_tuple(thing, 2, 2) and is_from(thing[0], 0) and is_from(thing[1], 0)


def _is_stretch(thing):
    """Whether it has the form of rows, so many times over."""
    if not is_tuple(thing, 2, 2) or not is_tuple(thing[0], 1, MOST_ROWS):
        return False
    return all([_is_row(row) for row in thing[0]]) and is_from(thing[1], 1)


def _is_path(thing):
    return type(thing) == list and all([_is_stretch(stretch) for stretch in thing])


def _is_source_paper(thing):
    """Whether it has the form of a paper of a source."""
    if not is_tuple(thing, 6, 6):
        return False
    web, hand, beat, doing, told, path = thing
    if not _is_web_and_hand(web, hand) or not is_beat(beat):
        return False
    return is_from_to(doing, 0, web[0] - 1) and _is_source(web, told) and _is_path(path)


def _rows_from(parts, at, count):
    """So many rows of the way, from its row of this number on."""
    ahead = parts[0][0]
    told = ahead[at:at + count]
    if len(told) == count:
        return told
    circle = parts[1][0]
    start = max(at - len(ahead), 0) % len(circle)
    end = start + count - len(told)
    rounds = circle * (end // len(circle) + 1)
    return told + rounds[start:end]


def _are_due(parts, at, rows, times):
    """Whether the rows, so many times over, are those of the way from this number on."""
    if at + len(rows) * times > copies_in(parts):
        return False
    # Behind the way's first part both go round, the way by its circle and
    # these by themselves: where they are alike for as many rows as both
    # together have they are so for ever.
    count = min(len(rows) * times, len(rows) + sum([len(part) for part, _ in parts]))
    given = list(rows) * (count // len(rows) + 1)
    return given[:count] == _rows_from(parts, at, count)


def source_fault(paper):
    """The first fault of a paper of a source, or None."""
    if not _is_source_paper(paper):
        return ("form",)
    web, hand, beat, doing, told, path = paper
    ways = Ways(web)
    parts, _, _ = ways.back(hand, beat)
    at = 0
    for k, (rows, times) in enumerate(path):
        if not _are_due(parts, at, rows, times):
            return "path", k
        at = at + len(rows) * times
    if at < copies_in(parts):
        return ("ends",)
    if told != source(web, hand, beat):
        return ("source",)
    if doing != ways.doing(hand, beat):
        return ("doing",)
    return None
