"""Of promises [16] and [17]: tests of hands, and how often hands do what."""

import unittest
from random import Random

from agohands.errors import TooLong
from agohands.far import scene_at
from agohands.meetings import how_often, is_test, kth_doing, times_of
from agohands.times import count_below, is_meant, is_times
from plain import (
    APART, FAR, JUST_IN_TIME, JUST_TOO_LATE, KINDS, MIXED, NO_COPIES, WIDE, WIDE_CIRCLE, all_whole, alone, circle,
    copy, going, number_of, own, plain_round, webs,
)
from things import Odd, Sore, anything, near_misses

DOES = ("does", 0, 1)
# Each kind of test, four deep.
DEEP = ("not", ("all", (("any", (DOES, ("same", 0, 1), ("goes", 1, 2), ("not", DOES)[1])), ("goes", 0, 1))))
TOO_LONG = (APART, JUST_TOO_LATE, WIDE_CIRCLE)


def holds(web, scene, beat, test):
    """As the document says it, of one beat."""
    word = test[0]
    if word == "does":
        return scene[test[1]] == test[2]
    if word == "same":
        return scene[test[1]] == scene[test[2]]
    if word == "goes":
        return number_of(web[2][test[1]], beat) == test[2]
    if word == "not":
        return not holds(web, scene, beat, test[1])
    parts = [holds(web, scene, beat, part) for part in test[1]]
    return False not in parts if word == "all" else True in parts


def a_test(chance, web, deep=4):
    hand, other = chance.randrange(len(web[2])), chance.randrange(len(web[2]))
    word = chance.choice(("not", "all", "any", "all", "any") if deep > 1 and chance.random() < 0.8 else (
        "does", "same", "goes",
    ))
    if word == "does":
        return (word, hand, chance.randrange(web[0]))
    if word == "same":
        return (word, hand, other)
    if word == "goes":
        return (word, hand, chance.randrange(len(web[2][hand])))
    if word == "not":
        return (word, a_test(chance, web, deep - 1))
    return (word, tuple(a_test(chance, web, deep - 1) for _ in range(chance.randint(1, 4))))


def in_time():
    """Webs that go round in time, with their (first, round) and rows."""
    found = []
    for web in (*webs(50, seed=30), MIXED, WIDE, NO_COPIES, JUST_IN_TIME):
        rows = going(web, 5000)
        known = plain_round(web, rows)
        if known is not None:
            found.append((web, rows, *known))
    return found


IN_TIME = in_time()


class IsTest(unittest.TestCase):
    def assert_test(self, thing, web=MIXED):
        self.assertIs(is_test(web, thing), True, thing)

    def assert_none(self, thing, web=MIXED):
        self.assertIs(is_test(web, thing), False)

    def test_does(self):
        for hand in (0, 1):
            for doing in (0, 1, 2):
                self.assert_test(("does", hand, doing))
        for number in (-1, 2, 3, FAR, True, False, None, "0", (0,), Odd(), Sore()):
            self.assert_none(("does", number, 0))
            if type(number) is not int or number != 2:
                self.assert_none(("does", 0, number))
        self.assert_test(("does", 0, 0), NO_COPIES)
        self.assert_test(("does", 1, 3), NO_COPIES)
        self.assert_none(("does", 1, 4), NO_COPIES)

    def test_same(self):
        for one in (0, 1):
            for other in (0, 1):
                self.assert_test(("same", one, other))
        for number in (-1, 2, 3, FAR, True, False, None, "0", (0,), Odd(), Sore()):
            self.assert_none(("same", number, 0))
            self.assert_none(("same", 0, number))
        self.assert_test(("same", 5, 0), WIDE)
        self.assert_none(("same", 0, 6), WIDE)

    def test_goes_by_rules_of_that_hand(self):
        for hand, rules in enumerate(MIXED[2]):
            for rule in range(len(rules)):
                self.assert_test(("goes", hand, rule))
            self.assert_none(("goes", hand, len(rules)))
        self.assert_test(("goes", 1, 2))
        self.assert_none(("goes", 0, 2))
        for number in (-1, 3, FAR, True, False, None, "0", (0,), Odd(), Sore()):
            self.assert_none(("goes", number, 0))
            self.assert_none(("goes", 1, number))
        # A rule that is never gone by is one too.
        self.assert_test(("goes", 0, 1), alone((own(0), own(1))))

    def test_not_all_and_any(self):
        self.assert_test(("not", DOES))
        for word in ("all", "any"):
            for count in (1, 2, 3, 4):
                self.assert_test((word, (DOES,) * count))
            for count in (0, 5, 6):
                self.assert_none((word, (DOES,) * count))
            self.assert_none((word, DOES))
            self.assert_none((word, [DOES]))
            self.assert_none((word, (DOES, ("does", 2, 0))))
            self.assert_none((word, (("does", 0, 3), DOES)))
            self.assert_none((word, DOES, DOES))
            self.assert_none((word,))
        self.assert_none(("not", (DOES,)))
        self.assert_none(("not", DOES, DOES))
        self.assert_none(("not", ("does", 2, 0)))
        self.assert_none(("not",))
        self.assert_none(("not", [*DOES]))

    def test_four_deep_and_five(self):
        self.assert_test(DEEP)
        for inner in (DOES, ("same", 0, 1), ("goes", 1, 2)):
            for word in ("not", "all", "any"):
                thing = inner
                for deep in range(2, 8):
                    thing = (word, thing) if word == "not" else (word, (DOES, thing))
                    self.assertIs(is_test(MIXED, thing), deep <= 4, thing)
        three = ("any", (("all", (DOES, DOES)), ("not", DOES)))
        self.assert_test(("all", (DOES, three, DOES, three)))
        self.assert_none(("all", (DOES, ("not", three))))
        self.assert_none(("not", DEEP))

    def test_other_words_and_forms(self):
        for word in ("", "do", "DOES", "Does", "does ", " does", "xor", "own", "copy", 0, None, b"does", ("does",)):
            self.assert_none((word, 0, 1))
            self.assert_none((word, DOES))
            self.assert_none((word, (DOES,)))
        self.assert_none(("does", 0))
        self.assert_none(("does", 0, 1, 2))
        self.assert_none(("same", 0))
        self.assert_none(("goes", 0, 0, 0))
        self.assert_none(list(DOES))
        self.assert_none(())
        self.assert_none("does")

    def test_anything(self):
        for thing in anything():
            self.assert_none(thing)
            self.assert_none(("not", thing))
            self.assert_none(("all", thing))
            self.assert_none(("any", (DOES, thing)))
            self.assert_none((thing, 0, 0))
            self.assert_none((thing, DOES))
            if type(thing) is not int or thing not in (0, 1):
                self.assert_none(("same", thing, 0))
                self.assert_none(("same", 0, thing))
        for thing in near_misses(("any", (("does", 0, 1), ("not", ("same", 1, 0)), ("goes", 1, 2)))):
            self.assert_none(thing)

    def test_tests_of_webs_by_chance(self):
        chance = Random(31)
        for web in KINDS:
            for _ in range(30):
                self.assert_test(a_test(chance, web), web)


class TimesOf(unittest.TestCase):
    def assert_times(self, web, rows, first, again, test):
        times = times_of(web, test)
        self.assertIs(is_times(times), True, times)
        for beat in (*range(60), *range(0, 5000, 61), 4998, 4999):
            scene = [row[beat] for row in rows]
            self.assertIs(is_meant(times, beat), holds(web, scene, beat, test), (web, test, beat))
        plain = [beat for beat in range(first + again) if holds(web, [row[beat] for row in rows], beat, test)]
        self.assertEqual(count_below(times, first + again), len(plain))
        self.assertTrue(set(times[2]) <= set(plain))

    def test_as_told_by_hand(self):
        # Hand 0 goes by its own rule at beats 2, 5, 8 and on, hand 1 by its
        # first one at odd beats, by its last at even ones.
        self.assertEqual(times_of(MIXED, ("goes", 0, 0)), (0, 3, (), (2,)))
        self.assertEqual(times_of(MIXED, ("goes", 1, 0)), (0, 2, (), (1,)))
        self.assertEqual(times_of(MIXED, ("goes", 1, 1)), (0, 1, (), ()))
        self.assertEqual(times_of(MIXED, ("all", (("goes", 0, 0), ("goes", 1, 0)))), (0, 6, (), (5,)))
        self.assertEqual(times_of(MIXED, ("any", (("goes", 0, 0), ("goes", 1, 0)))), (0, 6, (), (1, 2, 3, 5)))
        self.assertEqual(times_of(MIXED, ("not", ("goes", 1, 0))), (0, 2, (), (0,)))
        self.assertEqual(times_of(MIXED, ("does", 0, 1)), (0, 6, (), (5,)))
        self.assertEqual(times_of(MIXED, ("does", 1, 2)), (0, 1, (), (0,)))
        self.assertEqual(times_of(MIXED, ("does", 1, 0)), (0, 1, (), ()))
        self.assertEqual(times_of(MIXED, ("same", 1, 1)), (0, 1, (), (0,)))
        self.assertEqual(times_of(MIXED, ("same", 0, 1)), (0, 1, (), ()))

    def test_beats_ahead_of_what_comes_again(self):
        web = alone((copy(0, 2, (1, 2, 3, 4, 4, 5, 6, 7, 8)),), (own(1, 2),))
        self.assertEqual(times_of(web, ("does", 0, 2)), (4, 1, (2, 3), ()))
        self.assertEqual(times_of(web, ("does", 0, 4)), (6, 1, (), (0,)))
        self.assertEqual(times_of(web, ("same", 0, 1)), (4, 1, (0, 3), ()))

    def test_each_kind_of_test(self):
        for web, rows, first, again in IN_TIME:
            last = len(web[2]) - 1
            for test in (("does", last, web[0] - 1), ("same", 0, last), ("goes", last, len(web[2][last]) - 1)):
                for deeper in (test, ("not", test), ("all", (test,)), ("any", (test,))):
                    self.assert_times(web, rows, first, again, deeper)

    def test_tests_by_chance(self):
        chance = Random(32)
        for web, rows, first, again in IN_TIME:
            for _ in range(3):
                self.assert_times(web, rows, first, again, a_test(chance, web))

    def test_far(self):
        chance = Random(33)
        for web, _, _, _ in IN_TIME[::3]:
            for test in (("goes", 0, len(web[2][0]) - 1), a_test(chance, web), a_test(chance, web)):
                times = times_of(web, test)
                for beat in (*range(FAR - 5, FAR + 1), 10 ** 17 + 7, 2 ** 53 + 1):
                    self.assertIs(is_meant(times, beat), holds(web, scene_at(web, beat), beat, test))

    def test_a_long_round(self):
        # The two hands do alike where both rests are alike, so to say.
        times = times_of(JUST_IN_TIME, ("all", (("same", 0, 1), ("does", 0, 3))))
        self.assertIs(is_times(times), True)
        self.assertEqual(times[1], 4950)
        self.assertEqual(times_of(JUST_IN_TIME, ("does", 2, 8)), (35, 1, (), (0,)))

    def test_a_test_as_deep_and_wide_as_can_be(self):
        test = ("same", 0, 1)
        for word in ("any", "all", "any"):
            test = (word, (test, ("same", 0, 1), ("does", 1, 2), test))
        self.assertIs(is_test(JUST_IN_TIME, test), True)
        rows = going(JUST_IN_TIME, 5000)
        for deep in (test, ("not", test[1][0])):
            self.assert_times(JUST_IN_TIME, rows, 50, 4950, deep)
            self.assertEqual(times_of(JUST_IN_TIME, deep)[1], 4950)

    def test_too_long(self):
        for web in TOO_LONG:
            for test in (DOES, ("same", 0, 1), ("goes", 0, 0), ("not", ("goes", 1, 0)), ("same", 0, 0)):
                self.assertIs(is_test(web, test), True)
                with self.assertRaises(TooLong) as refused:
                    times_of(web, test)
                self.assertIs(type(refused.exception), TooLong)

    def test_too_long_also_where_the_test_hangs_on_the_beat_alone(self):
        # The hand of its own is no worse for the others.
        web = alone(*APART[2], (own(3, every=2), own(4)))
        for test in (("goes", 3, 0), ("does", 3, 4), ("not", ("does", 3, 4)), ("goes", 0, 0)):
            self.assertIs(is_test(web, test), True)
            with self.assertRaises(TooLong):
                times_of(web, test)
        self.assertEqual(times_of(alone(web[2][3]), ("goes", 0, 0)), (0, 2, (), (0,)))


class HowOften(unittest.TestCase):
    def test_as_told_by_hand(self):
        web = alone((own(1, 0, 2),), many=4)
        self.assertEqual(how_often(web, 0, 0), [0, 0, 0, 0])
        self.assertEqual(how_often(web, 0, 5), [2, 2, 1, 0])
        self.assertEqual(how_often(web, 0, FAR), [FAR // 3, FAR // 3 + 1, FAR // 3, 0])

    def test_near(self):
        for web, rows, first, again in IN_TIME:
            for hand, row in list(enumerate(rows))[-2:]:
                for beat in sorted({0, 1, 7, 60, first, first + 1, first + again, first + again + 1, 4999, 5000}):
                    beat = min(beat, 5000)
                    plain = [row[:beat].count(doing) for doing in range(web[0])]
                    self.assertEqual(how_often(web, hand, beat), plain)

    def test_far_by_whole_rounds(self):
        for web, rows, first, again in IN_TIME:
            hand = len(rows) - 1
            row = rows[hand]
            circle_row = row[first:first + again]
            for beat in (FAR, FAR - 1, FAR - again, 10 ** 17 + 7):
                rounds, left = divmod(beat - first, again)
                near = row[:first] + circle_row[:left]
                plain = [near.count(doing) + rounds * circle_row.count(doing) for doing in range(web[0])]
                told = how_often(web, hand, beat)
                self.assertEqual(told, plain)
                self.assertEqual(sum(told), beat)

    def test_the_list_is_the_askers_own(self):
        one, other = how_often(MIXED, 0, 9), how_often(MIXED, 0, 9)
        self.assertIs(type(one), list)
        self.assertIsNot(one, other)
        self.assertTrue(all_whole(one))
        one[0] = 99
        one.append(7)
        self.assertEqual(how_often(MIXED, 0, 9), other)

    def test_too_long(self):
        for web in TOO_LONG:
            for beat in (0, 1, FAR):
                with self.assertRaises(TooLong):
                    how_often(web, 0, beat)


class KthDoing(unittest.TestCase):
    def test_as_told_by_hand(self):
        web = alone((own(1, 0, 2),), many=4)
        self.assertEqual([kth_doing(web, 0, 0, k) for k in range(3)], [1, 4, 7])
        self.assertEqual(kth_doing(web, 0, 2, FAR // 10), 3 * (FAR // 10) + 2)
        self.assertIsNone(kth_doing(web, 0, 3, 0))
        self.assertIsNone(kth_doing(web, 0, 3, FAR))

    def test_near(self):
        for web, rows, _, _ in IN_TIME:
            for hand, row in list(enumerate(rows))[:2]:
                for doing in range(web[0]):
                    beats = [beat for beat, done in enumerate(row) if done == doing]
                    for k in (0, 1, 5, len(beats) - 1):
                        if 0 <= k < len(beats):
                            told = kth_doing(web, hand, doing, k)
                            self.assertEqual(told, beats[k])
                            self.assertIs(type(told), int)

    def test_none_where_there_are_no_so_many(self):
        web = alone((copy(0, 2, (1, 2, 3, 3)),), many=4)
        self.assertEqual([kth_doing(web, 0, 1, k) for k in range(3)], [0, 1, None])
        self.assertEqual([kth_doing(web, 0, 2, k) for k in range(3)], [2, 3, None])
        self.assertEqual([kth_doing(web, 0, 0, k) for k in range(2)], [None, None])
        self.assertIsNone(kth_doing(web, 0, 1, FAR))
        self.assertEqual(kth_doing(web, 0, 3, FAR), FAR + 4)

    def test_far_by_whole_rounds(self):
        for web, rows, first, again in IN_TIME:
            row = rows[0]
            for doing in sorted(set(row)):
                ahead = [beat for beat in range(first) if row[beat] == doing]
                within = [beat for beat in range(first, first + again) if row[beat] == doing]
                for k in (FAR, FAR - 1, 10 ** 15 + 7):
                    if not within:
                        self.assertIsNone(kth_doing(web, 0, doing, k))
                        continue
                    rounds, left = divmod(k - len(ahead), len(within))
                    beat = within[left] + rounds * again
                    self.assertEqual(kth_doing(web, 0, doing, k), beat)
                    if beat <= FAR:
                        self.assertEqual(scene_at(web, beat)[0], doing)
                        self.assertEqual(how_often(web, 0, beat)[doing], k)

    def test_too_long(self):
        for web in TOO_LONG:
            for k in (0, 1, FAR):
                with self.assertRaises(TooLong):
                    kth_doing(web, 0, 1, k)


if __name__ == "__main__":
    unittest.main()
