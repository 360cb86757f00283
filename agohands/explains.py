"""What explains: the copies by which hands may have done what was seen."""

from agohands.kinds import is_tuple
from agohands.turns import are_doings, is_many
from agohands.webs import MOST_HANDS

MOST_AGO = 12
MOST_SEEN = 300


def is_seen(thing):
    """Whether it is what may be seen of hands: (many, before, rows)."""
    if not is_tuple(thing, 3, 3):
        return False
    many, before, rows = thing
    if not is_many(many) or not is_tuple(rows, 1, MOST_HANDS):
        return False
    count = len(rows)
    if not are_doings(many, before, count, count) or not is_tuple(rows[0], 1, MOST_SEEN):
        return False
    beats = len(rows[0])
    return all([are_doings(many, row, beats, beats) for row in rows])


def _copied(before, row, ago):
    """What was done so many beats before each beat of the row."""
    return ([before] * ago + list(row))[:len(row)]


def _turn(many, copied, row):
    """The turn that makes each copied doing into the row's, None where there is none such.

    None stands in it for the doings that are never copied.
    """
    turn = [None] * many
    for doing, made in sorted(set(list(zip(copied, row)))):
        if turn[doing] is not None:
            return None
        turn[doing] = made
    return tuple(turn)


def fits_among(seen, hand, most):
    """The list of all (hand, ago, turn), ago from 1 to most, that fit the hand.

    The rows that are seen may be of any length here.
    """
    many, before, rows = seen
    told = []
    for other, row in enumerate(rows):
        for ago in range(1, most + 1):
            turn = _turn(many, _copied(before[other], row, ago), rows[hand])
            if turn is not None:
                told.append((other, ago, turn))
    return told


def fits(seen, hand, *, most=MOST_AGO):
    """The list of all copies (hand, ago, turn) that fit the hand."""
    return fits_among(seen, hand, most)


def _one_copy(fit):
    """The hand that goes by this fit's copy at each beat."""
    other, ago, turn = fit
    whole = tuple([0 if made is None else made for made in turn])
    return ((1, 0, ("copy", other, ago, whole)),)


def explaining(seen, *, most=MOST_AGO):
    """The web that explains what is seen, each hand by its least fit, or None."""
    many, before, rows = seen
    hands = []
    for hand in range(len(rows)):
        told = fits_among(seen, hand, most)
        if not told:
            return None
        hands.append(_one_copy(told[0]))
    return many, before, tuple(hands)


def _least_left_out(many, copied, row):
    """How many beats must be left out at least so that the copy fits."""
    counts = [[0] * many for _ in range(many)]
    for doing, made in zip(copied, row):
        counts[doing][made] += 1
    # Of the beats at which one doing was copied those stay that made the same
    # of it: the most of them.
    return len(row) - sum([max(count) for count in counts])


def left_out(seen, hand, *, most=MOST_AGO):
    """The dict from each (hand, ago) to the least number of beats to be left out."""
    many, before, rows = seen
    told = {}
    for other, row in enumerate(rows):
        for ago in range(1, most + 1):
            copied = _copied(before[other], row, ago)
            told[other, ago] = _least_left_out(many, copied, rows[hand])
    return told
