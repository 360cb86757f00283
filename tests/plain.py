"""The test's own plain going, beat by beat, and webs of many kinds."""

from math import lcm
from random import Random

from agohands.webs import is_web

FAR = 10 ** 18
EVERY = (1, 2, 3, 4, 5, 6, 8, 10, 12)


def number_of(rules, beat):
    """The number of the rule that goes at the beat."""
    for number, (every, at, _) in enumerate(rules):
        if beat % every == at:
            return number
    raise AssertionError("no rule goes")


def rule_of(web, hand, beat):
    return web[2][hand][number_of(web[2][hand], beat)]


def did(web, rows, hand, beat):
    """What a hand did by the rows, or before."""
    return rows[hand][beat] if beat >= 0 else web[1][hand]


def going(web, beats):
    """For each hand what it does at the beats from 0 on, one by one."""
    rows = [[] for _ in web[2]]
    for beat in range(beats):
        for hand, row in enumerate(rows):
            every, _, what = rule_of(web, hand, beat)
            if what[0] == "own":
                row.append(what[1][beat // every % len(what[1])])
            else:
                _, copied, ago, turn = what
                row.append(turn[did(web, rows, copied, beat - ago)])
    return rows


def leads_back(web, hand, beat):
    """All (hand, beat) of the way back, one by one."""
    way = [(hand, beat)]
    while beat >= 0:
        what = rule_of(web, hand, beat)[2]
        if what[0] == "own":
            return way
        hand, beat = what[1], beat - what[2]
        way.append((hand, beat))
    return way


def gone_on(web, past, beat, count):
    """The scenes at so many beats from the beat on, behind twelve scenes, the latest last."""
    scenes = list(past)
    for now in range(beat, beat + count):
        scene = []
        for hand in range(len(web[2])):
            every, _, what = rule_of(web, hand, now)
            if what[0] == "own":
                scene.append(what[1][now // every % len(what[1])])
            else:
                _, copied, ago, turn = what
                scene.append(turn[scenes[-ago][copied]])
        scenes.append(tuple(scene))
    return scenes[len(past):]


def gone_far(web, past, beat, end):
    """The last twelve scenes below the end, one by one till all of it comes again."""
    met, past, beats = {}, tuple(past), plain_clock(web)
    while beat < end:
        key = (beat % beats, past)
        if key in met:
            again = beat - met[key]
            beat += (end - beat) // again * again
            return (*past, *gone_on(web, past, beat, end - beat))[-12:]
        met[key] = beat
        past = (*past[1:], *gone_on(web, past, beat, 1))
        beat += 1
    return past


def told_beats(story, last):
    """(beat, web, end) of each part of the story, up to a last beat."""
    ends = [beat for beat, _ in story[1:]] + [last + 1]
    return [(beat, web, min(end, last + 1)) for (beat, web), end in zip(story, ends) if beat <= last]


def story_going(story, beats):
    """The scenes of the story at so many beats, one by one."""
    scenes = [story[0][1][1]] * 12
    for beat, web, end in told_beats(story, beats - 1):
        scenes += gone_on(web, scenes[-12:], beat, end - beat)
    return scenes[12:]


def story_far(story, last):
    """The last twelve scenes of the story, that of the last beat behind."""
    past = (story[0][1][1],) * 12
    for beat, web, end in told_beats(story, last):
        past = gone_far(web, past, beat, end)
    return past


def web_of(story, beat):
    """The web that goes at a beat of the story."""
    return [web for start, web in story if start <= beat][-1]


def story_leads_back(story, hand, beat):
    """(hand, beat, turn, copies) of the doing's source, rule by rule."""
    turn, copies = tuple(range(story[0][1][0])), 0
    while beat >= 0:
        what = rule_of(web_of(story, beat), hand, beat)[2]
        if what[0] == "own":
            break
        _, hand, ago, earlier = what
        turn = tuple(turn[doing] for doing in earlier)
        copies, beat = copies + 1, beat - ago
    return hand, max(beat, -1), turn, copies


def a_story(chance, most_beat, own=0.3):
    """Some story, its parts' beats to a most one."""
    first = a_web(chance, own)
    beats = {chance.randint(1, most_beat) for _ in range(chance.randint(0, 5))}
    return ((0, first), *((beat, a_web(chance, own, like=first)) for beat in sorted(beats)))


def stories(count, seed, most_beat=200):
    """So many stories: of webs of many own rules, of few, of none."""
    chance = Random(seed)
    return [a_story(chance, most_beat, own=(0.3, 0.08, 0)[k % 3]) for k in range(count)]


def plain_clock(web):
    beats = 1
    for rules in web[2]:
        for every, _, what in rules:
            beats = lcm(beats, every * (len(what[1]) if what[0] == "own" else 1))
    return beats


def plain_ago(web):
    return max([what[2] for rules in web[2] for _, _, what in rules if what[0] == "copy"] + [0])


def plain_window(web, rows, beat):
    ago = plain_ago(web)
    pasts = (tuple(did(web, rows, hand, beat - k) for k in range(1, ago + 1)) for hand in range(len(rows)))
    return beat % plain_clock(web), tuple(pasts)


def plain_round(web, rows, last=5000):
    """The first (first, round) of the windows at beats to the last, or None."""
    met = {}
    for beat in range(last + 1):
        window = plain_window(web, rows, beat)
        if window in met:
            return met[window], beat - met[window]
        met[window] = beat
    return None


def row_round(row, first, again):
    """The least (first, round) of a row that goes round so, by trying all."""
    circle = row[first:first + again]
    for size in range(1, again + 1):
        if again % size == 0 and all(circle[k] == circle[k - size] for k in range(again)):
            break
    long = row[:first] + circle + circle
    for start in range(first + 1):
        if all(long[k] == long[k + size] for k in range(start, first + again)):
            return start, size
    raise AssertionError("it does not go round")


def a_turn(chance, many):
    if chance.random() < 0.6:
        return tuple(chance.sample(range(many), many))
    return tuple(chance.randrange(many) for _ in range(many))


def a_what(chance, many, count, own):
    if chance.random() < own:
        return ("own", tuple(chance.randrange(many) for _ in range(chance.randint(1, 6))))
    return ("copy", chance.randrange(count), chance.randint(1, 12), a_turn(chance, many))


def a_web(chance, own=0.3, most_hands=6, like=None):
    """Some web, perhaps with another's doings, hands and before; own is how often a rule is an own one."""
    while True:
        many, count = (like[0], len(like[2])) if like else (chance.randint(1, 9), chance.randint(1, most_hands))
        hands = []
        for _ in range(count):
            rules = []
            for _ in range(chance.randint(0, 5)):
                every = chance.choice(EVERY)
                rules.append((every, chance.randrange(every), a_what(chance, many, count, own)))
            hands.append((*rules, (1, 0, a_what(chance, many, count, own))))
        before = like[1] if like else tuple(chance.randrange(many) for _ in range(count))
        web = (many, before, tuple(hands))
        if is_web(web):
            return web


def webs(count, seed):
    """So many webs: of many own rules, of few, of none."""
    chance = Random(seed)
    return [a_web(chance, own=(0.3, 0.08, 0)[k % 3]) for k in range(count)]


def own(*row, every=1, at=0):
    return (every, at, ("own", row))


def copy(hand, ago, turn, every=1, at=0):
    return (every, at, ("copy", hand, ago, tuple(turn)))


def circle(size, many=9):
    """The turn that leads the first so many doings round."""
    return (*range(1, size), 0, *range(size, many))


def chain(steps, many=9):
    """The turn that leads 0 on to steps and lets it stay there."""
    return tuple(min(doing + 1, steps) if doing <= steps else doing for doing in range(many))


def alone(*hands, many=9, before=0):
    """A web of hands, all of which did the same before."""
    return (many, (before,) * len(hands), hands)


# A web of all kinds of rules.
MIXED = (3, (0, 2), (
    (own(0, 1, every=3, at=2), copy(1, 1, (1, 2, 0))),
    (copy(0, 12, (2, 2, 2), every=2, at=1), own(2, every=4, at=3), copy(1, 5, (0, 1, 2))),
))
# Hands of 4,950 scenes' round; the other two let it begin late.
LONG = ((copy(0, 10, circle(5)),), (copy(1, 11, circle(9)),), (copy(2, 5, chain(8)),))
JUST_IN_TIME = alone(*LONG, (copy(2, 4, range(9)),))
JUST_TOO_LATE = alone(*LONG, (copy(2, 5, range(9)),))
# The way back goes round all five hands in 125 beats, by one turn that comes
# again after five: the windows at 0 and at 5,000 are alike, no others before.
FROM_THE_FIRST = alone(
    *[
        (
            copy((hand + 1) % 5, 11, range(9) if hand else circle(5), every=5),
            copy(hand, 11, range(9), every=5, at=1),
            copy(hand, 1, range(9)),
        )
        for hand in range(5)
    ],
    (own(0, 0, every=4), own(0)),
)
# Each hand goes round within 100 beats, all of them together far later.
APART = alone(LONG[0], LONG[1], (copy(2, 7, circle(7)),))
# Six hands of twelve-beat rules and a clock of 240; it goes round in time.
WIDE = (9, (0, 1, 2, 3, 4, 5), tuple(
    (
        copy((hand + 2) % 6, 11, circle(9), every=12, at=hand),
        copy(hand, 7, circle(4), every=12, at=hand + 6),
        *((own(0, 1, 2, 3, every=12, at=0), own(4, every=5)) if hand == 0 else ()),
        copy((hand + 1) % 6, 1, (1, 0, 2, 4, 5, 6, 7, 8, 3)),
    )
    for hand in range(6)
))
# As wide, but its own rules are idle: each way back is as long as can be, and
# it does not go round in time.
WIDE_CIRCLE = (9, (8, 7, 6, 5, 4, 3), tuple(
    (
        copy((hand + 1) % 6, 2 if hand == 0 else 1, circle(9) if hand % 2 else circle(4)),
        *((own(0, 1, 2, 3, every=12), own(4, every=5)) if hand == 0 else ()),
        copy(hand, 12, circle(3)),
    )
    for hand in range(6)
))
NO_COPIES = (4, (3, 1), ((own(0, 1, every=2, at=1), own(2, 2, 3)), (own(1),)))
ONE_DOING = (1, (0,), ((copy(0, 3, (0,)),),))
KINDS = (MIXED, JUST_IN_TIME, JUST_TOO_LATE, FROM_THE_FIRST, APART, WIDE, WIDE_CIRCLE, NO_COPIES, ONE_DOING)


def all_whole(thing):
    """Whether there is nothing in it but whole numbers, tuples and lists."""
    if type(thing) in (tuple, list):
        return all(all_whole(part) for part in thing)
    return type(thing) is int
