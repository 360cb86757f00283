"""Likeness: where hands part, and webs by other names or side by side."""

from agohands.errors import NotLike
from agohands.kinds import is_list, is_whole
from agohands.rounds import going_round
from agohands.rows import row_of
from agohands.turns import is_turn
from agohands.webs import MOST_CLOCK, MOST_HANDS, clock


def _rows(web):
    """For each hand (row, first, round): its row below first + round."""
    scenes, first, again = going_round(web)
    return [(row_of(scenes, hand), first, again) for hand in range(len(web[2]))]


def _row_below(told, beat):
    """The row gone on with up to a beat that is above first + round."""
    row, first, again = told
    circle = row[first:]
    rounds = (beat - first) // again
    return (row + circle * rounds)[:beat]


def _apart(one, other):
    """The least beat at which two told rows part, or None."""
    # Of two rows that both go round, those that do alike for as many beats as
    # both rounds together have do alike for ever.
    beat = max(one[1], other[1]) + one[2] + other[2]
    row = _row_below(one, beat)
    its_row = _row_below(other, beat)
    for at, (doing, its) in enumerate(zip(row, its_row)):
        if doing != its:
            return at
    return None


def first_apart(web, hand, other, its):
    """The least beat at which a hand of web and one of other part, or None."""
    ones = _rows(web)
    others = _rows(other)
    return _apart(ones[hand], others[its])


def first_parted(web, other):
    """The least (beat, hand) at which the webs part, or None."""
    if len(web[2]) != len(other[2]):
        raise NotLike("the webs have unlike many hands")
    parted = []
    for hand, (one, its) in enumerate(zip(_rows(web), _rows(other))):
        beat = _apart(one, its)
        if beat is not None:
            parted.append((beat, hand))
    return min(parted, default=None)


def _is_each_once(numbers):
    """Whether these are all whole numbers from 0 on, below as many as they are."""
    if not all([is_whole(number) for number in numbers]):
        return False
    return sorted(numbers) == list(range(len(numbers)))


def _places(numbers):
    """Where each number stands among them."""
    return [numbers.index(number) for number in range(len(numbers))]


def _renamed_what(what, places, turn):
    if what[0] == "own":
        return "own", tuple([turn[doing] for doing in what[1]])
    _, hand, ago, old = what
    # From the new name to the old one, by the old turn, to the new name again.
    new = tuple([turn[old[doing]] for doing in _places(turn)])
    return "copy", places[hand], ago, new


def renamed(web, order, turn):
    """The web with its hands in this order, and its doings called what the turn makes of them."""
    many, before, hands = web
    if not is_list(order, len(hands), len(hands)) or not _is_each_once(order):
        raise NotLike("it is no order of the web's hands")
    if not is_turn(many, turn) or not _is_each_once(turn):
        raise NotLike("it is no one to one turn of the web's doings")
    places = _places(order)
    new_hands = []
    for hand in order:
        rules = [(every, at, _renamed_what(what, places, turn)) for every, at, what in hands[hand]]
        new_hands.append(tuple(rules))
    return many, tuple([turn[before[hand]] for hand in order]), tuple(new_hands)


def _alike_hand(ones, its, taken):
    """The least hand, none of those taken, that does for ever what the row says, or None."""
    for hand, one in enumerate(ones):
        if hand not in taken and _apart(one, its) is None:
            return hand
    return None


def order_of(web, other):
    """The least order by which all rows of other are those of web, or None."""
    if len(web[2]) != len(other[2]):
        return None
    ones = _rows(web)
    order = []
    # Of hands that do alike any one serves as well, so to take the least one
    # left for each never leaves a later hand without one.
    for its in _rows(other):
        hand = _alike_hand(ones, its, order)
        if hand is None:
            return None
        order.append(hand)
    return order


def _moved_on(rule, hands):
    """The rule with the copied hand's number moved on by so many hands."""
    every, at, what = rule
    if what[0] == "own":
        return rule
    _, hand, ago, turn = what
    return every, at, ("copy", hand + hands, ago, turn)


def side_by_side(web, other):
    """The web of the hands of web and then those of other."""
    if web[0] != other[0]:
        raise NotLike("the webs have unlike many doings")
    count = len(web[2])
    if count + len(other[2]) > MOST_HANDS:
        raise NotLike(f"there would be more than {MOST_HANDS} hands")
    moved_on = [tuple([_moved_on(rule, count) for rule in rules]) for rules in other[2]]
    told = (web[0], web[1] + other[1], (*web[2], *moved_on))
    if clock(told) > MOST_CLOCK:
        raise NotLike(f"the clock would be above {MOST_CLOCK}")
    return told
