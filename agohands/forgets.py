"""What is forgotten: from when on doings hang on no before."""

from agohands.rows import Going, scenes_before
from agohands.ways import Ways


def hangs_on(web, hand, beat):
    """The hand whose before the doing hangs on, or None."""
    ways = Ways(web)
    parts, begun_by, begun_at = ways.back(hand, beat)
    turn = ways.turn_of_all(parts)
    if begun_at >= 0 or turn.count(turn[0]) == len(turn):
        return None
    return begun_by


def _images(turn):
    """What the turn makes of each set of doings: bit d of a set's number stands for doing d."""
    images = [0]
    for made in turn:
        images = images + [image | (1 << made) for image in images]
    return tuple(images)


def _rule_of_sets(rule):
    every, at, what = rule
    if what[0] == "own":
        return every, at, ("own", tuple([1 << doing for doing in what[1]]))
    _, hand, ago, turn = what
    return every, at, ("copy", hand, ago, _images(turn))


def _of_sets(web):
    """The web whose doings are sets: all that its hands may do, whatever was before."""
    many, before, hands = web
    count = 1 << many
    rules_of_sets = [tuple([_rule_of_sets(rule) for rule in rules]) for rules in hands]
    return count, (count - 1,) * len(before), tuple(rules_of_sets)


def _are_several(doings):
    """Whether there is more than one doing in the set."""
    return doings & (doings - 1) != 0


def _forgotten(web, hands):
    """The least beat from which on no doing of these hands hangs on any before, or None."""
    sets = _of_sets(web)
    going = Going(sets)
    past = scenes_before(sets)
    beat = 0
    forgotten = 0
    # At first a hand may do all, and of fewer doings turns make no more. So a
    # clock later never more may be done, and once it is as it was a clock
    # before it stays so for ever.
    while True:
        scenes = going.on(past, beat, going.beats)
        behind = (past + scenes)[len(scenes):]
        hang = [any([_are_several(scene[hand]) for hand in hands]) for scene in scenes]
        if behind == past:
            return None if any(hang) else forgotten
        for number, hangs in enumerate(hang):
            if hangs:
                forgotten = beat + number + 1
        past = behind
        beat = beat + going.beats


def forgets(web, hand):
    """The least beat from which on no doing of the hand hangs on any before, or None."""
    return _forgotten(web, [hand])


def web_forgets(web):
    """The least beat from which on no doing of any hand hangs on any before, or None."""
    return _forgotten(web, list(range(len(web[2]))))
