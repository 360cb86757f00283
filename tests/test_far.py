"""Of promise [11]: what hands do at any beat."""

import unittest

from agohands.far import doing_at, doings_from, scene_at
from plain import (
    FAR, JUST_TOO_LATE, KINDS, MIXED, NO_COPIES, WIDE, WIDE_CIRCLE, all_whole, alone, chain, circle, copy, going,
    own, plain_round, rule_of, webs,
)

FAR_BEATS = (FAR, FAR - 1, FAR - 2, FAR - 239, FAR - 1000, 10 ** 17 + 7, 2 ** 53 + 1, 10 ** 9, 10 ** 6)


def alone_at(ago, size, beat):
    """What a hand that copies itself by a circle does: each copy is one more."""
    return (beat // ago + 1) % size


class DoingAt(unittest.TestCase):
    def test_near(self):
        for web in (*webs(60, seed=13), *KINDS):
            rows = going(web, 300)
            for hand, row in enumerate(rows):
                for beat in (*range(40), 239, 240, 241, 299):
                    self.assertEqual(doing_at(web, hand, beat), row[beat])

    def test_at_thousands(self):
        for web in KINDS:
            rows = going(web, 12000)
            for beat in (1439, 1440, 4999, 5000, 11999):
                for hand, row in enumerate(rows):
                    self.assertEqual(doing_at(web, hand, beat), row[beat])

    def test_far_by_sums(self):
        for ago in range(1, 13):
            for size in (2, 5, 9):
                web = alone((copy(0, ago, circle(size)),))
                for beat in FAR_BEATS:
                    self.assertEqual(doing_at(web, 0, beat), alone_at(ago, size, beat))

    def test_far_by_a_turn_that_settles(self):
        web = alone((copy(0, 12, chain(8)),), (copy(1, 1, (1, 2, 3, 4, 5, 6, 5, 0, 0)),))
        for beat in FAR_BEATS:
            self.assertEqual(doing_at(web, 0, beat), 8)
            self.assertEqual(doing_at(web, 1, beat), 5 + beat % 2)

    def test_far_of_its_own(self):
        web = alone((own(0, 1, 2, 3, 4), ), (own(5, 6, every=12, at=11), copy(0, 12, circle(5))))
        for beat in FAR_BEATS:
            self.assertEqual(doing_at(web, 0, beat), beat % 5)
            plain = 5 + beat // 12 % 2 if beat % 12 == 11 else ((beat - 12) % 5 + 1) % 5
            self.assertEqual(doing_at(web, 1, beat), plain)

    def test_far_where_windows_come_again(self):
        for web in (*webs(60, seed=14), MIXED, WIDE, NO_COPIES):
            rows = going(web, 5000)
            known = plain_round(web, rows)
            if known is None:
                continue
            first, again = known
            for beat in FAR_BEATS:
                near = first + (beat - first) % again
                for hand, row in enumerate(rows):
                    self.assertEqual(doing_at(web, hand, beat), row[near])

    def test_far_where_no_windows_come_again_in_time(self):
        # Each hand alone is told by sums.
        sizes = ((11, 9), (10, 7), (9, 8), (12, 5), (7, 9), (5, 6))
        web = alone(*[(copy(hand, ago, circle(size)),) for hand, (ago, size) in enumerate(sizes)])
        for beat in FAR_BEATS:
            plain = tuple(alone_at(ago, size, beat) for ago, size in sizes)
            self.assertEqual(scene_at(web, beat), plain)
            self.assertEqual(tuple(doing_at(web, hand, beat) for hand in range(6)), plain)

    def test_far_each_doing_is_by_its_rule(self):
        for web in (WIDE, WIDE_CIRCLE, JUST_TOO_LATE):
            for beat in FAR_BEATS:
                for hand in range(len(web[2])):
                    every, _, what = rule_of(web, hand, beat)
                    if what[0] == "own":
                        plain = what[1][beat // every % len(what[1])]
                    else:
                        plain = what[3][doing_at(web, what[1], beat - what[2])]
                    self.assertEqual(doing_at(web, hand, beat), plain)

    def test_a_whole_number(self):
        for web in KINDS:
            for beat in (0, 1, FAR):
                self.assertIs(type(doing_at(web, 0, beat)), int)


class SceneAt(unittest.TestCase):
    def test_near(self):
        for web in (*webs(30, seed=15), *KINDS):
            rows = going(web, 100)
            for beat in (*range(20), 99):
                self.assertEqual(scene_at(web, beat), tuple(row[beat] for row in rows))

    def test_far(self):
        for web in (*webs(12, seed=16), *KINDS):
            for beat in FAR_BEATS:
                told = scene_at(web, beat)
                self.assertIs(type(told), tuple)
                self.assertTrue(all_whole(told))
                self.assertEqual(told, tuple(doing_at(web, hand, beat) for hand in range(len(web[2]))))


class DoingsFrom(unittest.TestCase):
    def test_near(self):
        for web in (*webs(30, seed=17), *KINDS):
            rows = going(web, 100)
            for first in (0, 1, 5, 11, 12, 13, 60):
                for hand, row in enumerate(rows):
                    for count in (0, 1, 2, 40):
                        self.assertEqual(doings_from(web, hand, first, count), row[first:first + count])

    def test_a_thousand_near(self):
        for web in KINDS:
            row = going(web, 4000)[-1]
            for first in (0, 7, 3000):
                self.assertEqual(doings_from(web, len(web[2]) - 1, first, 1000), row[first:first + 1000])

    def test_none_at_any_beat(self):
        for web in KINDS:
            for first in (0, 1, FAR):
                self.assertEqual(doings_from(web, 0, first, 0), [])

    def test_far(self):
        for web in (*webs(12, seed=18), *KINDS):
            hand = len(web[2]) - 1
            for first in (FAR, FAR - 999, 10 ** 16 + 5):
                self.assertEqual(doings_from(web, hand, first, 1), [doing_at(web, hand, first)])
            told = doings_from(web, hand, FAR - 999, 1000)
            self.assertEqual(len(told), 1000)
            for k in (*range(30), 239, 240, 241, 500, 998, 999):
                self.assertEqual(told[k], doing_at(web, hand, FAR - 999 + k))

    def test_far_by_sums(self):
        web = alone((copy(0, 7, circle(9)),), (copy(0, 3, circle(4)),))
        first = FAR - 999
        told = doings_from(web, 0, first, 1000)
        self.assertEqual(told, [alone_at(7, 9, beat) for beat in range(first, first + 1000)])
        turn = circle(4)
        self.assertEqual(doings_from(web, 1, first, 1000), [
            turn[alone_at(7, 9, beat - 3)] for beat in range(first, first + 1000)
        ])

    def test_the_list_is_the_askers_own(self):
        for count in (0, 5):
            one, other = doings_from(MIXED, 0, 3, count), doings_from(MIXED, 0, 3, count)
            self.assertIs(type(one), list)
            self.assertIsNot(one, other)
            self.assertTrue(all_whole(one))
            one.append(7)
            self.assertEqual(doings_from(MIXED, 0, 3, count), other)


if __name__ == "__main__":
    unittest.main()
