"""Doings, and the turns that make doings into doings."""

from agohands.kinds import is_from_to, is_tuple

MOST_DOINGS = 9


def is_many(thing):
    """Whether there may be so many doings."""
    return is_from_to(thing, 1, MOST_DOINGS)


def are_doings(many, thing, least, most):
    """Whether it is a tuple of least to most doings."""
    if not is_tuple(thing, least, most):
        return False
    return all([is_from_to(doing, 0, many - 1) for doing in thing])


def is_turn(many, thing):
    """Whether it is a turn of so many doings."""
    return is_many(many) and are_doings(many, thing, many, many)


def after(one, other):
    """The turn that does one and then other."""
    return tuple([other[doing] for doing in one])


def staying(many):
    """The turn that leaves each of so many doings as it is."""
    return tuple(range(many))


def power(turn, k):
    """The turn done k times."""
    done = staying(len(turn))
    doubled = turn
    left = k
    while left > 0:
        if left & 1:
            done = after(done, doubled)
        doubled = after(doubled, doubled)
        left = left // 2
    return done


def often(turn, doing, k):
    """What the turn done k times makes of the doing."""
    # One doing comes again after nine steps at most, so it need not be done
    # for the others, nor for each of the k times.
    come_to = []
    while doing not in come_to:
        if len(come_to) == k:
            return doing
        come_to.append(doing)
        doing = turn[doing]
    first = come_to.index(doing)
    return come_to[first + (k - first) % (len(come_to) - first)]


def settles(turn):
    """The least (first, round) from which the turn's powers come again."""
    # The first power that was there before closes the circle of all powers,
    # so it gives the least round and the least first at once.
    powers = []
    done = staying(len(turn))
    while done not in powers:
        powers.append(done)
        done = after(done, turn)
    first = powers.index(done)
    return first, len(powers) - first
