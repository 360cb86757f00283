"""Meetings: at which beats a test of hands holds, and how often hands do what."""

from agohands.kinds import is_from_to, is_text, is_tuple
from agohands.rounds import going_round
from agohands.rows import row_of
from agohands.times import kth, told_times
from agohands.webs import clock, rule_at

DEEPEST = 4
MOST_PARTS = 4


def _is_of_hands(web, thing):
    """Whether this tuple of three is a test."""
    word, hand, number = thing
    last_hand = len(web[2]) - 1
    if not is_from_to(hand, 0, last_hand):
        return False
    if word == "does":
        return is_from_to(number, 0, web[0] - 1)
    if word == "same":
        return is_from_to(number, 0, last_hand)
    return word == "goes" and is_from_to(number, 0, len(web[2][hand]) - 1)


def _is_test(web, thing, deepest):
    """Whether it is a test of the web, at most so deep."""
    if deepest == 0 or not is_tuple(thing, 2, 3) or not is_text(thing[0]):
        return False
    if len(thing) == 3:
        return _is_of_hands(web, thing)
    word, inner = thing
    if word == "not":
        return _is_test(web, inner, deepest - 1)
    if word not in ("all", "any") or not is_tuple(inner, 1, MOST_PARTS):
        return False
    return all([_is_test(web, part, deepest - 1) for part in inner])


def is_test(web, thing):
    """Whether it is a test of the web's hands."""
    return _is_test(web, thing, DEEPEST)


def _goes(web, hand, number, count):
    """For each of so many beats whether the hand goes by the rule of this number."""
    beats = clock(web)
    by_rests = [rule_at(web, hand, rest) == number for rest in range(beats)]
    return (by_rests * (count // beats + 1))[:count]


def _truths(web, scenes, test):
    """For each beat of the scenes, which begin at beat 0, whether the test holds."""
    word = test[0]
    if word == "does":
        return [scene[test[1]] == test[2] for scene in scenes]
    if word == "same":
        return [scene[test[1]] == scene[test[2]] for scene in scenes]
    if word == "goes":
        return _goes(web, test[1], test[2], len(scenes))
    if word == "not":
        return [not holds for holds in _truths(web, scenes, test[1])]
    parts = [_truths(web, scenes, part) for part in test[1]]
    if word == "all":
        return [all(truths) for truths in zip(*parts)]
    return [any(truths) for truths in zip(*parts)]


def times_of(web, test):
    """The times, in told form, at which the test holds."""
    scenes, first, again = going_round(web)
    return told_times(_truths(web, scenes, test), first, again)


def how_often(web, hand, beat):
    """The list of how often the hand did each doing below the beat."""
    scenes, first, again = going_round(web)
    row = row_of(scenes, hand)
    rounds = max(beat - first, 0) // again
    circle = row[first:]
    plain = row[:beat - rounds * again]
    return [plain.count(doing) + rounds * circle.count(doing) for doing in range(web[0])]


def kth_doing(web, hand, doing, k):
    """The k-th beat at which the hand does the doing, or None."""
    return kth(times_of(web, ("does", hand, doing)), k)
