"""Of promises [14] and [15]: times, and what is told and made of them."""

import unittest
from math import lcm
from random import Random

from agohands.errors import HandError, TooLong
from agohands.times import beside, both, count_below, either, is_meant, is_times, kth, moved, without
from plain import FAR, all_whole, row_round
from things import Odd, Sore, anything, near_misses

NEVER, ALWAYS = (0, 1, (), ()), (0, 1, (), (0,))
FIRST_IS_LAST = (20000, 1, (19999,), ())
LONGEST = (0, 50000, (), (7,))
GREAT = (20000, 50000, tuple(range(1, 20000, 3)), (*range(0, 49999, 2), 49999))
FEW = (3, 4, (0, 2), (0, 1))
SOME = (
    NEVER, ALWAYS, FEW, (0, 2, (), (0,)), (0, 2, (), (1,)), (1, 1, (), (0,)), (1, 1, (0,), ()), (2, 2, (1,), (0,)),
    (5, 3, (0, 1, 4), (0, 2)), (5, 1, (4,), ()), (2, 6, (0, 1), (0, 2)), (0, 6, (), (0, 1, 3)), (7, 5, (), (1, 2, 4)),
)


def meant(times, beat):
    """As the document says it."""
    first, again, ahead, within = times
    return beat in ahead if beat < first else beat % again in within


def truths(times, beats):
    return [meant(times, beat) for beat in range(beats)]


def told(row, first, again):
    """The told form of a row's times, by trying all."""
    first, again = row_round(row, first, again)
    rests = sorted(beat % again for beat in range(first, first + again) if row[beat])
    return first, again, tuple(beat for beat in range(first) if row[beat]), tuple(rests)


def some_times(count, seed, rounds=(1, 2, 3, 4, 5, 6, 8, 10, 12)):
    chance = Random(seed)
    made = []
    for _ in range(count):
        first, again = chance.randint(0, 12), chance.choice(rounds)
        row = [chance.random() < 0.5 for _ in range(first + again)]
        made.append(told(row, first, again))
    return made


class Told(unittest.TestCase):
    def assert_told(self, times, row, first, again):
        """They are told in told form, and mean what the row does."""
        self.assertEqual(times, told(row, first, again))
        self.assertTrue(all_whole(times))
        self.assertEqual([type(times), type(times[2]), type(times[3])], [tuple] * 3)
        self.assertIs(is_times(times), True)


class IsTimes(unittest.TestCase):
    def assert_none(self, thing):
        self.assertIs(is_times(thing), False)

    def test_told_forms(self):
        for times in (*SOME, *some_times(60, seed=1)):
            self.assertIs(is_times(times), True, times)

    def test_all_small_ones(self):
        # Each row of so many truths has one told form, and no other thing
        # that means the same beats is one.
        forms = {}
        for first in range(4):
            for again in range(1, 5):
                for bits in range(2 ** (first + again)):
                    row = [bits >> k & 1 == 1 for k in range(first + again)]
                    ahead = tuple(k for k in range(first) if row[k])
                    within = tuple(sorted(k % again for k in range(first, first + again) if row[k]))
                    thing = (first, again, ahead, within)
                    form = told(row, first, again)
                    self.assertIs(is_times(thing), thing == form, thing)
                    self.assertIs(is_times(form), True)
                    forms.setdefault(tuple(truths(thing, 40)), set()).add(form)
        self.assertEqual({len(same) for same in forms.values()}, {1})

    def test_the_round_gone_through_twice(self):
        self.assertIs(is_times((0, 3, (), (0, 1))), True)
        self.assert_none((0, 6, (), (0, 1, 3, 4)))
        self.assert_none((0, 9, (), (0, 1, 3, 4, 6, 7)))
        self.assert_none((0, 2, (), (0, 1)))
        self.assert_none((0, 50000, (), ()))
        self.assert_none((0, 49999, (), tuple(range(49999))))
        self.assert_none((0, 50000, (), tuple(range(0, 50000, 5))))

    def test_a_later_first(self):
        self.assertIs(is_times((1, 3, (), (0,))), True)
        self.assert_none((1, 3, (0,), (0,)))
        self.assert_none((1, 3, (), (0 + 1,)))
        self.assert_none((1, 1, (), ()))
        self.assert_none((20000, 1, (), ()))
        self.assert_none((20000, 1, tuple(range(20000)), (0,)))

    def test_first_at_its_bound(self):
        self.assertIs(is_times(FIRST_IS_LAST), True)
        self.assertIs(is_times((20000, 1, (), (0,))), True)
        self.assert_none((20001, 1, (20000,), ()))
        self.assert_none((20001, 1, (), (0,)))
        self.assert_none((-1, 1, (), ()))

    def test_round_at_its_bound(self):
        self.assertIs(is_times(LONGEST), True)
        self.assertIs(is_times((0, 50000, (), (49999,))), True)
        self.assert_none((0, 50001, (), (7,)))
        self.assert_none((0, 0, (), ()))
        self.assert_none((0, 0, (), (0,)))
        self.assert_none((0, -1, (), ()))

    def test_great_ones(self):
        self.assertIs(is_times(GREAT), True)
        self.assert_none((*GREAT[:3], GREAT[3][1:] + GREAT[3][:1]))
        self.assert_none((*GREAT[:3], GREAT[3] + (50000,)))
        self.assert_none((*GREAT[:2], GREAT[2] + (20000,), GREAT[3]))

    def test_beats_and_rests_at_their_bounds(self):
        for number in (-1, 3, 4, FAR):
            self.assert_none((3, 5, (number,), (1,)))
        for number in (-1, 5, 6, FAR):
            self.assert_none((3, 5, (2,), (number,)))
        self.assertIs(is_times((3, 5, (2,), (1,))), True)
        self.assert_none((0, 5, (0,), (1,)))
        self.assert_none((0, 5, (-1,), (1,)))

    def test_numbers_twice_and_turned_about(self):
        self.assert_none((3, 4, (0, 0, 2), (0, 1)))
        self.assert_none((3, 4, (2, 0), (0, 1)))
        self.assert_none((3, 4, (0, 2), (1, 0)))
        self.assert_none((3, 4, (0, 2), (0, 1, 1)))

    def test_other_kinds(self):
        self.assert_none(list(FEW))
        self.assert_none((3, 4, [0, 2], (0, 1)))
        self.assert_none((3, 4, (0, 2), [0, 1]))
        self.assert_none((3, 4, (0, 2), range(2)))
        self.assert_none((3, 4, (0, 2), "01"))
        self.assert_none((3, 4, (False, 2), (0, 1)))
        self.assert_none((3, 4, (0, 2), (0, True)))
        self.assert_none((False, 2, (), (1,)))
        self.assert_none((0, True, (), ()))
        self.assert_none((True, 1, (), (0,)))
        self.assert_none(("0", 1, (), ()))
        self.assert_none((0, 1, None, ()))
        self.assert_none((3, 4, (0, 2)))
        self.assert_none((*FEW, ()))

    def test_anything(self):
        for thing in anything():
            self.assert_none(thing)
            self.assert_none((thing, 4, (0, 7), (0, 1)))
            self.assert_none((3, thing, (0, 2), (0, 6)))
            self.assert_none((3, 4, thing, (0, 3)))
            self.assert_none((3, 4, (0, 2), (0, 1, thing)))
            self.assert_none((3, 4, (1, thing), (0, 1)))
        for thing in near_misses(FEW):
            self.assert_none(thing)
        self.assert_none((Odd(), Odd(), Odd(), Odd()))
        self.assert_none((3, 4, (Sore(), 2), (0, 1)))


class Asked(unittest.TestCase):
    def test_is_meant_near(self):
        for times in (*SOME, *some_times(60, seed=2)):
            for beat in range(60):
                self.assertIs(is_meant(times, beat), meant(times, beat), (times, beat))

    def test_is_meant_far(self):
        for times in (*SOME, *some_times(20, seed=3)):
            for beat in (*range(FAR - 30, FAR + 1), 10 ** 17 + 3, 2 ** 53 + 1):
                self.assertIs(is_meant(times, beat), meant(times, beat))

    def test_count_below_near(self):
        for times in (*SOME, *some_times(60, seed=4)):
            row = truths(times, 60)
            for beat in range(61):
                counted = count_below(times, beat)
                self.assertIs(type(counted), int)
                self.assertEqual(counted, sum(row[:beat]), (times, beat))

    def test_count_below_far(self):
        for times in (*SOME, *some_times(20, seed=5)):
            first, again, _, within = times
            for beat in (FAR, FAR - 1, FAR - 7, 10 ** 17 + 3):
                rounds, left = divmod(beat - first, again)
                near = sum(truths(times, first + left))
                self.assertEqual(count_below(times, beat), near + rounds * len(within))

    def test_kth_near(self):
        for times in (*SOME, *some_times(60, seed=6)):
            beats = [beat for beat in range(200) if meant(times, beat)]
            for k in range(12):
                if k < len(beats):
                    self.assertIs(type(kth(times, k)), int)
                    self.assertEqual(kth(times, k), beats[k], (times, k))
                else:
                    self.assertIsNone(kth(times, k))

    def test_kth_far(self):
        for times in (*SOME, *some_times(20, seed=7)):
            for k in (FAR, FAR - 1, 10 ** 15 + 7):
                beat = kth(times, k)
                if not times[3]:
                    self.assertIsNone(beat)
                    continue
                self.assertIs(meant(times, beat), True)
                self.assertEqual(count_below(times, beat), k)
        self.assertEqual(kth(ALWAYS, FAR), FAR)
        self.assertEqual(kth(LONGEST, FAR), 50000 * FAR + 7)

    def test_no_so_many(self):
        for k in (0, 1, FAR):
            self.assertIsNone(kth(NEVER, k))
        self.assertEqual(kth(FIRST_IS_LAST, 0), 19999)
        self.assertIsNone(kth(FIRST_IS_LAST, 1))

    def test_great_ones_many_asked(self):
        row = _marks(GREAT, 150000)
        counted, beats = 0, []
        for beat, is_so in enumerate(row):
            if beat % 7 == 0:
                self.assertIs(is_meant(GREAT, beat), is_so)
                self.assertEqual(count_below(GREAT, beat), counted)
            if is_so:
                beats.append(beat)
                counted += 1
        for k in range(0, len(beats), 5):
            self.assertEqual(kth(GREAT, k), beats[k])


def _marks(times, beats):
    """As truths, but quick for great times."""
    first, again, ahead, within = times
    ahead, within = set(ahead), set(within)
    return [beat in ahead if beat < first else beat % again in within for beat in range(beats)]


MADE = (
    (both, lambda one, other: one and other),
    (either, lambda one, other: one or other),
    (without, lambda one, other: one and not other),
)


class Made(Told):
    def test_of_two(self):
        pairs = [(one, other) for one in SOME for other in SOME]
        pairs += list(zip(some_times(80, seed=8), some_times(80, seed=9)))
        for one, other in pairs:
            first, again = max(one[0], other[0]), lcm(one[1], other[1])
            rows = list(zip(truths(one, first + again), truths(other, first + again)))
            for call, plain in MADE:
                self.assert_told(call(one, other), [plain(*pair) for pair in rows], first, again)

    def test_as_told_by_hand(self):
        even, third = (0, 2, (), (0,)), (0, 3, (), (0,))
        self.assertEqual(both(even, third), (0, 6, (), (0,)))
        self.assertEqual(either(even, third), (0, 6, (), (0, 2, 3, 4)))
        self.assertEqual(without(even, third), (0, 6, (), (2, 4)))
        self.assertEqual(beside(third), (0, 3, (), (1, 2)))
        self.assertEqual(both(even, beside(even)), NEVER)
        self.assertEqual(either(even, beside(even)), ALWAYS)
        self.assertEqual(without(ALWAYS, even), (0, 2, (), (1,)))
        self.assertEqual(both(FEW, even), (3, 4, (0, 2), (0,)))
        self.assertEqual(without(even, FEW), (3, 4, (), (2,)))

    def test_beside(self):
        for times in (*SOME, *some_times(60, seed=10)):
            first, again = times[:2]
            self.assert_told(beside(times), [not truth for truth in truths(times, first + again)], first, again)
            self.assertEqual(beside(beside(times)), times)

    def test_a_rounds_least_common_one_of_fifty_thousand(self):
        one, other = (0, 3125, (), (1,)), (0, 16, (), (1,))
        self.assertEqual(both(one, other), (0, 50000, (), (1,)))
        self.assertEqual(without(one, other)[:3], (0, 50000, ()))
        self.assertEqual(len(either(one, other)[3]), 16 + 3125 - 1)
        other = (0, 16, (), (2, 15))
        for call, plain in MADE:
            for rows in ((GREAT, other), (other, GREAT)):
                told_now = call(*rows)
                self.assertIs(is_times(told_now), True)
                pairs = zip(*[_marks(times, 120000) for times in rows])
                self.assertEqual(_marks(told_now, 120000), [bool(plain(*pair)) for pair in pairs])
        self.assertEqual(both(GREAT, other)[1], 50000)

    def test_one_above_fifty_thousand(self):
        for call, _ in MADE:
            for one, other in (
                ((0, 3125, (), (1,)), (0, 17, (), (1,))), (LONGEST, (0, 3, (), (1,))),
                ((0, 223, (), (0,)), (0, 227, (), (0,))), ((0, 49999, (), (0,)), (0, 2, (), (0,))),
            ):
                for pair in ((one, other), (other, one)):
                    with self.assertRaises(TooLong) as refused:
                        call(*pair)
                    self.assertIs(type(refused.exception), TooLong)
            self.assertIs(is_times(call(LONGEST, NEVER)), True)
            self.assertIs(is_times(call(ALWAYS, LONGEST)), True)
            self.assertIs(is_times(call(LONGEST, (0, 50000, (), (8,)))), True)
        self.assertTrue(issubclass(TooLong, HandError))


class Moved(Told):
    def test_some_beats(self):
        for times in (*SOME, *some_times(60, seed=11)):
            first, again = times[:2]
            for beats in (0, 1, 2, 5, 12, 13):
                row = [False] * beats + truths(times, first + again)
                self.assert_told(moved(times, beats), row, first + beats, again)

    def test_as_told_by_hand(self):
        self.assertEqual(moved(ALWAYS, 1), (1, 1, (), (0,)))
        self.assertEqual(moved(ALWAYS, 1000), (1000, 1, (), (0,)))
        self.assertEqual(moved(NEVER, 1000), NEVER)
        # Beats 1, 3, 5 and on: moved by 1 the beat 0 would be meant, by its rest.
        self.assertEqual(moved((0, 2, (), (1,)), 1), (1, 2, (), (0,)))
        self.assertEqual(moved((0, 2, (), (1,)), 2), (2, 2, (), (1,)))
        self.assertEqual(moved((0, 5, (), (4,)), 3), (0 + 3, 5, (), (2,)))
        self.assertEqual(moved((0, 5, (), (0,)), 3), (0, 5, (), (3,)))
        self.assertEqual(moved(FEW, 2), (5, 4, (2, 4), (2, 3)))

    def test_by_a_thousand(self):
        for times in (*SOME, *some_times(9, seed=12)):
            told_now = moved(times, 1000)
            self.assertIs(is_times(told_now), True)
            for beat in (*range(0, 1000, 37), 999, *range(1000, 1060), FAR):
                plain = beat >= 1000 and meant(times, beat - 1000)
                self.assertIs(is_meant(told_now, beat), plain)

    def test_by_none(self):
        for times in (*SOME, GREAT, LONGEST, FIRST_IS_LAST):
            self.assertEqual(moved(times, 0), times)

    def test_first_at_its_bound(self):
        late = (19000, 1, (18999,), ())
        self.assertEqual(moved(late, 1000), (20000, 1, (19999,), ()))
        self.assertEqual(moved((19499, 2, (), (0,)), 501), (20000, 2, (), (1,)))
        for times, beats in (
            ((19001, 1, (19000,), ()), 1000), (FIRST_IS_LAST, 1), (GREAT, 1), ((19499, 2, (), (0,)), 502),
        ):
            with self.assertRaises(TooLong) as refused:
                moved(times, beats)
            self.assertIs(type(refused.exception), TooLong)


if __name__ == "__main__":
    unittest.main()
