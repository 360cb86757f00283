"""Times: which beats are meant, told by how they come again."""

from math import lcm

from agohands.errors import TooLong
from agohands.kinds import is_from_to, is_tuple
from agohands.rounds import least_round

LAST_FIRST = 20000
LONGEST_ROUND = 50000


def _are_below(thing, bound):
    """Whether it is a tuple of whole numbers from 0 on, below the bound."""
    if not is_tuple(thing, 0, bound):
        return False
    return all([is_from_to(number, 0, bound - 1) for number in thing])


def is_times(thing):
    """Whether it is times in told form."""
    if not is_tuple(thing, 4, 4):
        return False
    first, again, ahead, within = thing
    if not is_from_to(first, 0, LAST_FIRST) or not is_from_to(again, 1, LONGEST_ROUND):
        return False
    if not _are_below(ahead, first) or not _are_below(within, again):
        return False
    # In the told form all numbers rise, so no others can be like it.
    return thing == told_times(_truths(thing, first + again), first, again)


def _marked(count, numbers):
    """So many truths, True at these numbers."""
    truths = [False] * count
    for number in numbers:
        truths[number] = True
    return truths


def _truths(times, until):
    """For each beat below this one, which is not below first, whether it is meant."""
    first, again, ahead, within = times
    by_rests = _marked(again, within) * (until // again + 1)
    return _marked(first, ahead) + by_rests[first:until]


def told_times(truths, first, again):
    """The told form of times, of the truths of the beats below first + round."""
    first, again = least_round(truths, first, again)
    ahead = [beat for beat in range(first) if truths[beat]]
    rests = [beat % again for beat in range(first, first + again) if truths[beat]]
    return first, again, tuple(ahead), tuple(sorted(rests))


def _count(numbers, below):
    """How many of the rising numbers are below this one."""
    low = 0
    high = len(numbers)
    while low < high:
        middle = (low + high) // 2
        if numbers[middle] < below:
            low = middle + 1
        else:
            high = middle
    return low


def _count_by_rests(times, beat):
    """How many beats below this one would be meant if all went by their rests."""
    _, again, _, within = times
    return beat // again * len(within) + _count(within, beat % again)


def is_meant(times, beat):
    """Whether the beat is meant."""
    first, again, ahead, within = times
    if beat < first:
        numbers = ahead
        number = beat
    else:
        numbers = within
        number = beat % again
    place = _count(numbers, number)
    return place < len(numbers) and numbers[place] == number


def count_below(times, beat):
    """How many meant beats are below the beat."""
    first, _, ahead, _ = times
    if beat <= first:
        return _count(ahead, beat)
    return len(ahead) + _count_by_rests(times, beat) - _count_by_rests(times, first)


def kth(times, k):
    """The k-th meant beat, or None where there are no so many."""
    first, again, ahead, within = times
    if k < len(ahead):
        return ahead[k]
    if not within:
        return None
    by_rests = k - len(ahead) + _count_by_rests(times, first)
    return by_rests // len(within) * again + within[by_rests % len(within)]


def _side_by_side(one, other):
    """(pairs, first, round) of two times: pairs of their truths below first + round."""
    again = lcm(one[1], other[1])
    if again > LONGEST_ROUND:
        raise TooLong(f"both come again behind {again} beats only")
    first = max(one[0], other[0])
    until = first + again
    return list(zip(_truths(one, until), _truths(other, until))), first, again


def both(one, other):
    """The times that are meant by both."""
    pairs, first, again = _side_by_side(one, other)
    return told_times([meant and its for meant, its in pairs], first, again)


def either(one, other):
    """The times that are meant by one or the other or both."""
    pairs, first, again = _side_by_side(one, other)
    return told_times([meant or its for meant, its in pairs], first, again)


def without(one, other):
    """The times that are meant by the one but not by the other."""
    pairs, first, again = _side_by_side(one, other)
    return told_times([meant and not its for meant, its in pairs], first, again)


def beside(times):
    """The times that are not meant."""
    first, again, _, _ = times
    truths = _truths(times, first + again)
    return told_times([not meant for meant in truths], first, again)


def moved(times, beats):
    """The times moved on by so many beats."""
    first, again, _, _ = times
    truths = [False] * beats + _truths(times, first + again)
    told = told_times(truths, first + beats, again)
    if told[0] > LAST_FIRST:
        raise TooLong(f"first would be {told[0]}")
    return told
