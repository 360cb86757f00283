"""Of promise [13]: from when on webs, hands and scenes go round."""

import unittest

from agohands.errors import TooLong
from agohands.far import doing_at, scene_at
from agohands.windows import hand_round, scene_round, web_round, window_at
from plain import (
    APART, FAR, FROM_THE_FIRST, JUST_IN_TIME, JUST_TOO_LATE, KINDS, LONG, MIXED, NO_COPIES, ONE_DOING, WIDE,
    WIDE_CIRCLE, all_whole, alone, chain, circle, copy, going, own, plain_round, row_round, webs,
)

TOO_LONG = (APART, JUST_TOO_LATE, WIDE_CIRCLE)


class WebRound(unittest.TestCase):
    def test_as_told_by_hand(self):
        self.assertEqual(web_round(alone((copy(0, 1, circle(3)),))), (0, 3))
        self.assertEqual(web_round(alone((copy(0, 1, range(9)),))), (0, 1))
        self.assertEqual(web_round(alone((copy(0, 4, circle(9)),))), (0, 36))
        self.assertEqual(web_round(NO_COPIES), (0, 12))
        self.assertEqual(web_round(ONE_DOING), (0, 1))
        # At beats 0, 1, 2 it does 1, 2, 3, and so for ever: the window at 3
        # is the first that has but threes.
        self.assertEqual(web_round(alone((copy(0, 1, chain(3)),))), (3, 1))
        self.assertEqual(web_round(alone((copy(0, 2, chain(3)),))), (6, 1))

    def test_windows_know_the_clock(self):
        # The hands do the same at all beats, but the windows' rests don't.
        self.assertEqual(web_round(alone((own(0, 0, 0, 0, 0, every=12), copy(0, 1, range(9))))), (0, 60))
        self.assertEqual(web_round(alone((own(0),), (own(0), own(1, every=7), own(1)))), (0, 7))

    def test_windows_know_what_no_rule_asks_for(self):
        # The idle rule looks back on beats below 0.
        idle = copy(0, 12, range(9))
        self.assertEqual(web_round(alone((own(3), idle))), (12, 1))
        self.assertEqual(web_round(alone((own(3), idle), before=3)), (0, 1))

    def test_as_met_first(self):
        for web in (*webs(60, seed=24), *KINDS):
            known = plain_round(web, going(web, 5000))
            if known is None:
                with self.assertRaises(TooLong):
                    web_round(web)
            else:
                told = web_round(web)
                self.assertEqual(told, known)
                self.assertIs(type(told), tuple)
                self.assertTrue(all_whole(told))

    def test_just_in_time(self):
        self.assertEqual(web_round(JUST_IN_TIME), (50, 4950))
        rows = going(JUST_IN_TIME, 5000)
        self.assertEqual(plain_round(JUST_IN_TIME, rows), (50, 4950))
        self.assertIsNone(plain_round(JUST_IN_TIME, rows, last=4999))

    def test_at_the_first_beat_and_the_last(self):
        rows = going(FROM_THE_FIRST, 5001)
        self.assertEqual(plain_round(FROM_THE_FIRST, rows), (0, 5000))
        self.assertIsNone(plain_round(FROM_THE_FIRST, rows, last=4999))
        self.assertEqual(web_round(FROM_THE_FIRST), (0, 5000))
        self.assertEqual([hand_round(FROM_THE_FIRST, hand)[1] for hand in range(6)], [625] * 5 + [1])
        # As it is but for what one hand did before.
        web = (9, (0, 0, 0, 0, 0, 1), FROM_THE_FIRST[2])
        self.assertEqual(plain_round(web, going(web, 5011), last=5011), (11, 5000))
        with self.assertRaises(TooLong):
            web_round(web)

    def test_just_too_late(self):
        rows = going(JUST_TOO_LATE, 5001)
        self.assertEqual(plain_round(JUST_TOO_LATE, rows, last=5001), (51, 4950))
        self.assertIsNone(plain_round(JUST_TOO_LATE, rows))
        with self.assertRaises(TooLong):
            web_round(JUST_TOO_LATE)

    def test_too_long(self):
        for web in TOO_LONG:
            self.assertIsNone(plain_round(web, going(web, 5000)))
            with self.assertRaises(TooLong) as refused:
                web_round(web)
            self.assertIs(type(refused.exception), TooLong)

    def test_it_holds_at_far_beats(self):
        for web in (*webs(12, seed=25), MIXED, WIDE, JUST_IN_TIME):
            first, again = web_round(web)
            for beat in (first, FAR - again, FAR - again - 17, 10 ** 17):
                self.assertEqual(window_at(web, beat), window_at(web, beat + again))
            if first:
                self.assertNotEqual(window_at(web, first - 1), window_at(web, first - 1 + again))


class HandRound(unittest.TestCase):
    def test_as_told_by_hand(self):
        web = alone((copy(0, 2, circle(9)),), (own(1, 2, 1, 2),), (copy(2, 3, chain(2)),), (own(4, every=5), own(4)))
        # Window pasts of three make the web begin later than its hands.
        self.assertEqual(web_round(web), (6, 180))
        self.assertEqual(hand_round(web, 0), (0, 18))
        self.assertEqual(hand_round(web, 1), (0, 2))
        self.assertEqual(hand_round(web, 2), (3, 1))
        self.assertEqual(hand_round(web, 3), (0, 1))
        self.assertEqual(scene_round(web), (3, 18))

    def test_first_is_the_least_there_is(self):
        # It does 1, 2, 3, 4, and then 2, 3, 4 again and again.
        web = alone((copy(0, 1, (1, 2, 3, 4, 2, 5, 6, 7, 8)),))
        self.assertEqual(hand_round(web, 0), (1, 3))
        self.assertEqual(scene_round(web), (1, 3))
        self.assertEqual(web_round(web), (2, 3))

    def test_a_row_that_looks_round_for_a_while(self):
        # It does 1 for 24 beats, then 2 and 3 by turns, each for 12.
        web = alone((copy(0, 12, (1, 4, 3, 2, 2, 5, 6, 7, 8)),), (copy(0, 1, (0, 1, 2, 3, 1, 5, 6, 7, 8)),))
        self.assertEqual(going(web, 48)[1], [0] + [1] * 24 + [2] * 12 + [3] * 11)
        self.assertEqual(hand_round(web, 1), (25, 24))
        self.assertEqual(hand_round(web, 0), (24, 24))

    def test_against_all_that_could_be(self):
        for web in (*webs(60, seed=26), MIXED, WIDE, NO_COPIES, ONE_DOING):
            rows = going(web, 5000)
            known = plain_round(web, rows)
            if known is None:
                continue
            for hand, row in enumerate(rows):
                told = hand_round(web, hand)
                self.assertEqual(told, row_round(row, *known))
                self.assertIs(type(told), tuple)
                self.assertTrue(all_whole(told))
            told = scene_round(web)
            self.assertEqual(told, row_round(list(zip(*rows)), *known))
            self.assertIs(type(told), tuple)
            self.assertTrue(all_whole(told))

    def test_just_in_time(self):
        rounds = [hand_round(JUST_IN_TIME, hand) for hand in range(4)]
        self.assertEqual(rounds, [(0, 50), (0, 99), (35, 1), (39, 1)])
        self.assertEqual(scene_round(JUST_IN_TIME), (39, 4950))

    def test_too_long_though_each_row_comes_again_sooner(self):
        for web in TOO_LONG:
            for hand in range(len(web[2])):
                with self.assertRaises(TooLong):
                    hand_round(web, hand)
            with self.assertRaises(TooLong):
                scene_round(web)
        self.assertEqual([hand_round(alone((rule,)), 0) for rule in (copy(0, 7, circle(7)),)], [(0, 49)])
        self.assertEqual(scene_round(alone(LONG[0], LONG[1])), (0, 4950))

    def test_too_long_also_of_hands_that_do_one_thing_for_ever(self):
        web = alone(*APART[2], (own(3),))
        for call, arguments in ((web_round, ()), (hand_round, (3,)), (scene_round, ())):
            with self.assertRaises(TooLong):
                call(web, *arguments)

    def test_it_holds_at_far_beats(self):
        for web in (*webs(9, seed=27), MIXED, WIDE, JUST_IN_TIME):
            for hand in range(len(web[2])):
                first, again = hand_round(web, hand)
                for beat in (first, first + 1, FAR - again, FAR - again - 17, 10 ** 17):
                    self.assertEqual(doing_at(web, hand, beat), doing_at(web, hand, beat + again))
                if first:
                    self.assertNotEqual(doing_at(web, hand, first - 1), doing_at(web, hand, first - 1 + again))
            first, again = scene_round(web)
            for beat in (first, FAR - again, FAR - again - 17):
                self.assertEqual(scene_at(web, beat), scene_at(web, beat + again))
            if first:
                self.assertNotEqual(scene_at(web, first - 1), scene_at(web, first - 1 + again))


if __name__ == "__main__":
    unittest.main()
