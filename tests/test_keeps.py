"""Of promise [33]: the copies that a hand keeps at each beat."""

import unittest

from agohands.errors import HandError, TooLong
from agohands.explains import MOST_AGO, fits
from agohands.far import doing_at, doings_from
from agohands.keeps import kept_copies
from plain import (
    APART, FROM_THE_FIRST, JUST_IN_TIME, JUST_TOO_LATE, KINDS, MIXED, NO_COPIES, ONE_DOING, WIDE_CIRCLE,
    alone, chain, circle, copy, did, going, own, plain_round, webs,
)

FAR = 10 ** 17


def plain_kept(web, rows, beats, hand, most):
    """All that is kept at these beats, one by one."""
    told = []
    for other in range(len(web[2])):
        for ago in range(1, most + 1):
            turn = {}
            for beat in range(beats):
                made = turn.setdefault(did(web, rows, other, beat - ago), rows[hand][beat])
                if made != rows[hand][beat]:
                    break
            else:
                told.append((other, ago, tuple(turn.get(doing) for doing in range(web[0]))))
    return told


class Keeps(unittest.TestCase):
    def test_as_told_by_hand(self):
        # 0 1 0 1 .., and what stood one beat before.
        web = (3, (1, 0), ((own(0, 1),), (copy(0, 1, (2, 1, 0)),)))
        self.assertEqual(kept_copies(web, 0, most=2), [(0, 1, (1, 0, None)), (1, 1, (0, 1, 0))])
        self.assertEqual(kept_copies(web, 1, most=1), [(0, 1, (2, 1, None)), (1, 1, (1, 2, 1))])
        self.assertEqual(kept_copies(ONE_DOING, 0), [(0, ago, (0,)) for ago in range(1, 13)])
        self.assertEqual(kept_copies(alone((own(4),), many=9, before=4), 0, most=1), [(0, 1, (None,) * 4 + (4,) + (None,) * 4)])

    def test_against_rows_up_to_where_all_comes_again(self):
        kept = 0
        for web in (*webs(60, seed=1), MIXED, NO_COPIES, ONE_DOING):
            rows = going(web, 5000)
            told = plain_round(web, rows, 1500)
            if told is None:
                continue
            for hand in range(len(web[2])):
                for most in (1, 2, 7, 12):
                    expected = plain_kept(web, rows, min(sum(told) + 30, 5000), hand, most)
                    self.assertEqual(kept_copies(web, hand, most=most), expected)
                    kept += len(expected)
                self.assertEqual(kept_copies(web, hand), expected)
        self.assertGreater(kept, 500)

    def test_just_in_time(self):
        for web in (JUST_IN_TIME, FROM_THE_FIRST):
            rows = going(web, 5100)
            for hand in range(len(web[2])):
                self.assertEqual(kept_copies(web, hand), plain_kept(web, rows, 5030, hand, 12))

    def test_too_long(self):
        for web in (APART, JUST_TOO_LATE, WIDE_CIRCLE):
            for hand in range(len(web[2])):
                with self.assertRaises(TooLong) as refused:
                    kept_copies(web, hand)
                self.assertIs(type(refused.exception), TooLong)
                self.assertIsInstance(refused.exception, HandError)
                with self.assertRaises(TooLong):
                    kept_copies(web, hand, most=1)

    def test_copies_of_itself_and_of_others(self):
        for ago in range(1, 13):
            turn = circle(4)
            web = alone((copy(0, ago, turn),), (copy(0, ago, circle(9)),), (copy(1, ago, turn),))
            self.assertIn((0, ago, (*turn[:4], *[None] * 5)), kept_copies(web, 0))
            self.assertIn((0, ago, (1, 2, 3, 4, *[None] * 5)), kept_copies(web, 1))
            self.assertIn((1, ago), [told[:2] for told in kept_copies(web, 2)])

    def test_what_each_copy_rule_does_is_kept(self):
        for web in webs(45, seed=2):
            rows = going(web, 5000)
            if plain_round(web, rows) is None:
                continue
            for hand, rules in enumerate(web[2]):
                _, _, what = rules[0]
                if len(rules) == 1 and what[0] == "copy":
                    told = {part[:2]: part[2] for part in kept_copies(web, hand)}
                    turn = told[what[1:3]]
                    self.assertTrue(all(made in (None, its) for made, its in zip(turn, what[3])))

    def test_before_counts(self):
        # Its own row would let it be but for what was before.
        for before in range(3):
            web = (3, (before,), ((own(0, 1),),))
            told = kept_copies(web, 0, most=1)
            self.assertEqual(told, {
                0: [], 1: [(0, 1, (1, 0, None))], 2: [(0, 1, (1, 0, 0))],
            }[before])
        # Of 12 beats ago before is copied at beats 0 to 11, and never again.
        web = (3, (2,), ((own(0, 0, 0, 0, 0, 1),),))
        self.assertEqual([told[:2] for told in kept_copies(web, 0)], [])
        late = (3, (2, 0), ((own(1),), (own(0),)))
        self.assertEqual(
            kept_copies(late, 1), [(hand, ago, ((None, 0, 0), (0, None, None))[hand]) for hand in (0, 1) for ago in range(1, 13)],
        )

    def test_what_parts_only_behind_the_first_round(self):
        # From its first round on the hand does alike, ahead of it not.
        web = alone((copy(0, 1, chain(3)),), (copy(1, 1, chain(5)),))
        rows = going(web, 100)
        for hand in (0, 1):
            for most in (1, 3, 4, 5, 12):
                self.assertEqual(kept_copies(web, hand, most=most), plain_kept(web, rows, 100, hand, most))
        # What is copied of twelve beats ago parts only that long behind first.
        web = alone((copy(0, 1, chain(3)),), (copy(0, 12, circle(2)),), (copy(1, 1, chain(8)),))
        rows = going(web, 200)
        for hand in range(3):
            self.assertEqual(kept_copies(web, hand), plain_kept(web, rows, 200, hand, 12))

    def test_beats_copied_far_behind_the_round(self):
        # The web's most ago is 1, what is looked at stands to twelve beats ago.
        for web in (
            alone((copy(0, 1, chain(8)),), (own(0, 1, 2, 3, 4),)), alone((own(0),), before=1),
            alone((own(0, 0, 1, every=5, at=3), copy(0, 1, chain(8)))),
        ):
            rows = going(web, 400)
            for hand in range(len(web[2])):
                self.assertEqual(kept_copies(web, hand), plain_kept(web, rows, 400, hand, 12))

    def test_rising_by_hand_and_ago(self):
        for web in KINDS:
            try:
                told = [part[:2] for part in kept_copies(web, 0)]
            except TooLong:
                continue
            self.assertEqual(told, sorted(set(told)))

    def test_held_at_far_beats_too(self):
        for web in webs(40, seed=3):
            try:
                told = kept_copies(web, 0)
            except TooLong:
                continue
            for other, ago, turn in told:
                row, its = doings_from(web, 0, FAR, 40), doings_from(web, other, FAR - ago, 40)
                self.assertEqual([turn[doing] for doing in its], row)

    def test_what_is_not_told_is_broken_at_some_beat(self):
        for web in webs(25, seed=4):
            try:
                told = [part[:2] for part in kept_copies(web, 0)]
            except TooLong:
                continue
            rows = going(web, 5000)
            for other in range(len(web[2])):
                for ago in range(1, 13):
                    pairs = {(did(web, rows, other, beat - ago), rows[0][beat]) for beat in range(5000)}
                    broken = len(pairs) > len({doing for doing, _ in pairs})
                    self.assertEqual((other, ago) not in told, broken)

    def test_all_that_is_kept_fits_what_is_seen(self):
        for web in webs(40, seed=5):
            try:
                told = kept_copies(web, 0)
            except TooLong:
                continue
            seen = (web[0], web[1], tuple(map(tuple, going(web, 300))))
            at_all = {part[:2]: part[2] for part in fits(seen, 0)}
            for other, ago, turn in told:
                its = at_all[other, ago]
                self.assertTrue(all(made in (None, whole) for made, whole in zip(its, turn)))

    def test_most_left_out(self):
        self.assertEqual(MOST_AGO, 12)
        web = alone((copy(0, 12, circle(9)),))
        self.assertEqual(kept_copies(web, 0), kept_copies(web, 0, most=12))
        self.assertEqual(kept_copies(web, 0)[-1], (0, 12, circle(9)))
        self.assertEqual(kept_copies(web, 0, most=11), kept_copies(web, 0)[:-1])
        with self.assertRaises(TypeError):
            kept_copies(web, 0, 3)

    def test_what_is_told(self):
        told = kept_copies(MIXED, 0)
        told = kept_copies(JUST_IN_TIME, 2)
        self.assertIs(type(told), list)
        self.assertTrue(told)
        for part in told:
            self.assertEqual([type(its) for its in part], [int, int, tuple])
        told.append(None)
        self.assertEqual(kept_copies(JUST_IN_TIME, 2), told[:-1])
        self.assertEqual(doing_at(JUST_IN_TIME, 2, FAR), told[0][2][doing_at(JUST_IN_TIME, told[0][0], FAR - told[0][1])])


if __name__ == "__main__":
    unittest.main()
