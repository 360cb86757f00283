"""Of promise [8]: the plain rows of a web."""

import unittest

from agohands.rows import plain_rows
from plain import KINDS, MIXED, NO_COPIES, all_whole, alone, chain, circle, copy, going, own, webs


class PlainRows(unittest.TestCase):
    def test_as_told_by_hand(self):
        # Hand 0 goes by its own rule at 2, 5, 8, hand 1 at 1, 3, 5, 7 by a
        # copy whose turn makes all into 2, else it is as it was 5 beats ago.
        self.assertEqual(plain_rows(MIXED, 9), [
            [0, 0, 0, 0, 0, 1, 0, 0, 0],
            [2, 2, 2, 2, 2, 2, 2, 2, 2],
        ])

    def test_before_counts(self):
        web = (3, (0, 1, 2), (
            (copy(1, 2, (0, 2, 1)),), (copy(2, 3, (1, 1, 0)),), (copy(2, 1, (1, 2, 2)),),
        ))
        self.assertEqual(plain_rows(web, 4), [[2, 2, 0, 0], [0, 0, 0, 0], [2, 2, 2, 2]])

    def test_own_rows_go_on_by_every(self):
        self.assertEqual(plain_rows(alone((own(1, 2, 3),)), 7), [[1, 2, 3, 1, 2, 3, 1]])
        web = alone((own(1, 2, every=3, at=1), own(5, 6, 7)))
        self.assertEqual(plain_rows(web, 12), [[5, 1, 7, 5, 2, 7, 5, 1, 7, 5, 2, 7]])

    def test_a_hand_that_copies_itself(self):
        self.assertEqual(plain_rows(alone((copy(0, 1, circle(3)),)), 7), [[1, 2, 0, 1, 2, 0, 1]])
        self.assertEqual(plain_rows(alone((copy(0, 3, circle(3)),)), 7), [[1, 1, 1, 2, 2, 2, 0]])
        self.assertEqual(plain_rows(alone((copy(0, 12, chain(2)),)), 26), [[1] * 12 + [2] * 14])

    def test_hands_that_copy_one_another_at_one_beat(self):
        # What is copied was done before, by a hand told later too.
        web = (2, (0, 1), ((copy(1, 1, (0, 1)),), (copy(0, 1, (0, 1)),)))
        self.assertEqual(plain_rows(web, 5), [[1, 0, 1, 0, 1], [0, 1, 0, 1, 0]])

    def test_at_zero(self):
        for web in KINDS:
            self.assertEqual(plain_rows(web, 0), [[] for _ in web[2]])

    def test_as_gone_beat_by_beat(self):
        for web in webs(120, seed=8):
            rows = going(web, 60)
            for beat in (1, 2, 11, 12, 13, 60):
                self.assertEqual(plain_rows(web, beat), [row[:beat] for row in rows], web)

    def test_at_five_thousand(self):
        for web in KINDS:
            rows = going(web, 5000)
            self.assertEqual(plain_rows(web, 5000), rows)
            for beat in (1, 239, 240, 241, 4999):
                self.assertEqual(plain_rows(web, beat), [row[:beat] for row in rows])


class OwnLists(unittest.TestCase):
    def test_lists_of_whole_numbers(self):
        for web in KINDS:
            told = plain_rows(web, 30)
            self.assertEqual([type(told)] + [type(row) for row in told], [list] * (1 + len(web[2])))
            self.assertTrue(all_whole(told))

    def test_no_two_told_lists_are_one(self):
        web = alone((own(0),), (own(0),), (own(0),))
        for beat in (0, 1, 5):
            one, other = plain_rows(web, beat), plain_rows(web, beat)
            lists = [one, other, *one, *other]
            self.assertEqual(len({id(part) for part in lists}), 8)

    def test_a_told_list_is_the_askers_own(self):
        told = plain_rows(NO_COPIES, 3)
        told[0].append(9)
        told[1][0] = 8
        told.append([])
        self.assertEqual(plain_rows(NO_COPIES, 3), going(NO_COPIES, 3))


if __name__ == "__main__":
    unittest.main()
