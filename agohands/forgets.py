"""What is forgotten: from when on doings hang on no before."""

from agohands.rows import Going, scenes_before
from agohands.turns import after, settles, staying
from agohands.ways import Ways

# So many beats are gone on with at once.
STRETCH = 1000


def hangs_on(web, hand, beat):
    """The hand whose before the doing hangs on, or None."""
    ways = Ways(web)
    parts, begun_by, begun_at = ways.back(hand, beat)
    turn = ways.turn_of_all(parts)
    if begun_at >= 0 or turn.count(turn[0]) == len(turn):
        return None
    return begun_by


def _images(turn):
    """What the turn makes of each set of doings: bit d of a set's number stands for doing d."""
    images = [0]
    for made in turn:
        images = images + [image | (1 << made) for image in images]
    return tuple(images)


def _rule_of_sets(rule):
    every, at, what = rule
    if what[0] == "own":
        return every, at, ("own", tuple([1 << doing for doing in what[1]]))
    _, hand, ago, turn = what
    return every, at, ("copy", hand, ago, _images(turn))


def _of_sets(web):
    """The web whose doings are sets: all that its hands may do, whatever was before."""
    many, before, hands = web
    count = 1 << many
    rules_of_sets = [tuple([_rule_of_sets(rule) for rule in rules]) for rules in hands]
    return count, (count - 1,) * len(before), tuple(rules_of_sets)


def _circle_told(whats):
    """(late, again) of the places of a circle, of the copies that lead round it."""
    turn = staying(len(whats[0][3]))
    for what in whats:
        turn = after(what[3], turn)
    first, again = settles(turn)
    beats = sum([what[2] for what in whats])
    # Begun at another place of the circle the turn may settle one power later.
    return beats * (first + 1), beats * again


def _tell(ways, place, told):
    """Put (late, again) of the place, and of all that its way leads back to, into told.

    A place is a hand and a rest by the clock. At beats of this rest, from
    late on, what the hand may do comes again behind so many beats.
    """
    whats = {}
    behind = {}
    while place not in told and place not in whats:
        hand, rest = place
        what = ways.web[2][hand][ways.rule(hand, rest)][2]
        if what[0] == "own":
            told[place] = 0, 1
        else:
            whats[place] = what
            behind[place] = what[1], (rest - what[2]) % ways.beats
            place = behind[place]
    way = list(whats)
    if place not in told:
        circle = way[way.index(place):]
        of_circle = _circle_told([whats[its] for its in circle])
        for its in circle:
            told[its] = of_circle
    for its in reversed(way):
        if its not in told:
            late, again = told[behind[its]]
            told[its] = late + whats[its][2], again


def _late_and_again(web, hands):
    """From when on, and behind how many beats at most, what these hands may do comes again."""
    ways = Ways(web)
    places = [(hand, rest) for hand in hands for rest in range(ways.beats)]
    told = {}
    for place in places:
        _tell(ways, place, told)
    return max([told[place][0] for place in places]), max([told[place][1] for place in places])


def _hang(scenes, hand):
    """The numbers of the scenes in which the hand may do one of several doings."""
    return [number for number, scene in enumerate(scenes) if scene[hand] & (scene[hand] - 1)]


def _forgotten(web, hands):
    """The least beat from which on no doing of these hands hangs on any before, or None."""
    late, again = _late_and_again(web, hands)
    sets = _of_sets(web)
    going = Going(sets)
    past = scenes_before(sets)
    forgotten = 0
    for beat in range(0, late + again, STRETCH):
        scenes = going.on(past, beat, STRETCH)
        for hand in hands:
            last = max(_hang(scenes, hand), default=-1)
            forgotten = max(forgotten, beat + last + 1 if last >= 0 else 0)
        # What hangs on before from late on does so again and again.
        if forgotten > late:
            return None
        past = (past + scenes)[len(scenes):]
    return forgotten


def forgets(web, hand):
    """The least beat from which on no doing of the hand hangs on any before, or None."""
    return _forgotten(web, [hand])


def web_forgets(web):
    """The least beat from which on no doing of any hand hangs on any before, or None."""
    return _forgotten(web, list(range(len(web[2]))))
