"""Webs of hands, and the rules by which their hands go."""

from math import lcm

from agohands.kinds import is_from_to, is_text, is_tuple
from agohands.turns import are_doings, is_many, is_turn

MOST_HANDS = 6
MOST_RULES = 6
MOST_EVERY = 12
MOST_ROW = 6
FARTHEST_COPY = 12
MOST_CLOCK = 240


def _is_own(many, thing):
    return len(thing) == 2 and are_doings(many, thing[1], 1, MOST_ROW)


def _is_copy(many, count, thing):
    if len(thing) != 4:
        return False
    _, hand, ago, turn = thing
    if not is_from_to(hand, 0, count - 1):
        return False
    return is_from_to(ago, 1, FARTHEST_COPY) and is_turn(many, turn)


def _is_what(many, count, thing):
    if not is_tuple(thing, 2, 4) or not is_text(thing[0]):
        return False
    if thing[0] == "own":
        return _is_own(many, thing)
    return thing[0] == "copy" and _is_copy(many, count, thing)


def _is_rule(many, count, thing):
    if not is_tuple(thing, 3, 3):
        return False
    every, at, what = thing
    if not is_from_to(every, 1, MOST_EVERY):
        return False
    return is_from_to(at, 0, every - 1) and _is_what(many, count, what)


def _is_hand(many, count, thing):
    if not is_tuple(thing, 1, MOST_RULES):
        return False
    if not all([_is_rule(many, count, rule) for rule in thing]):
        return False
    return thing[-1][0] == 1


def is_web(thing):
    """Whether it is a web."""
    if not is_tuple(thing, 3, 3):
        return False
    many, before, hands = thing
    if not is_many(many) or not is_tuple(hands, 1, MOST_HANDS):
        return False
    count = len(hands)
    if not are_doings(many, before, count, count):
        return False
    if not all([_is_hand(many, count, hand) for hand in hands]):
        return False
    return clock(thing) <= MOST_CLOCK


def _rule_clock(rule):
    every, _, what = rule
    if what[0] == "own":
        return every * len(what[1])
    return every


def clock(web):
    """After how many beats all rules and own rows of the web come again."""
    beats = 1
    for hand in web[2]:
        for rule in hand:
            beats = lcm(beats, _rule_clock(rule))
    return beats


def most_ago(web):
    """The most beats ago that a rule of the web copies from, else 0."""
    whats = [rule[2] for hand in web[2] for rule in hand]
    return max([what[2] for what in whats if what[0] == "copy"], default=0)


def rule_at(web, hand, beat):
    """The number of the rule by which the hand goes at the beat."""
    rules = web[2][hand]
    for number, (every, at, _) in enumerate(rules[:-1]):
        if (beat - at) % every == 0:
            return number
    # The last rule goes at each beat that those before it leave.
    return len(rules) - 1


def own_doing(rule, beat):
    """What a hand does at a beat at which it goes by this own rule."""
    every, _, what = rule
    row = what[1]
    return row[beat // every % len(row)]


def _idle_of(web, hand):
    rules = web[2][hand]
    beats = 1
    for rule in rules:
        beats = lcm(beats, rule[0])
    # Which rule goes hangs on the beat's rests by every alone, so all rules
    # that ever go do so within these beats.
    gone_by = {rule_at(web, hand, beat) for beat in range(beats)}
    return [number for number in range(len(rules)) if number not in gone_by]


def idle_rules(web):
    """For each hand the list of the numbers of its rules never gone by."""
    return [_idle_of(web, hand) for hand in range(len(web[2]))]
