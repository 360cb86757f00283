"""Of promise [12]: windows, and what they make."""

import unittest

from agohands.errors import HandError, NoWindow
from agohands.far import scene_at
from agohands.windows import may_be_window, next_window, scene_of, window_at
from plain import (
    FAR, KINDS, MIXED, NO_COPIES, ONE_DOING, WIDE, WIDE_CIRCLE, all_whole, alone, circle, copy, going, own,
    plain_ago, plain_clock, plain_window, webs,
)
from things import Odd, Sore, anything, near_misses

FAR_BEATS = (FAR, FAR - 1, FAR - 2, FAR - 239, 10 ** 17 + 7, 2 ** 53 + 1)
# Two hands, three doings, a clock of 12, and pasts of three.
SMALL = (3, (0, 2), (
    (own(0, 1, every=2, at=1), copy(1, 3, (1, 2, 0))),
    (own(1, every=3), own(2, every=4), copy(0, 1, (0, 2, 1))),
))
WINDOW = (11, ((0, 1, 2), (2, 2, 0)))


class WindowAt(unittest.TestCase):
    def test_as_told_by_hand(self):
        self.assertEqual(window_at(SMALL, 0), (0, ((0, 0, 0), (2, 2, 2))))
        # Hand 0 does what 2 is made into at 0; hand 1 goes by its own rule.
        self.assertEqual(window_at(SMALL, 1), (1, ((0, 0, 0), (1, 2, 2))))
        self.assertEqual(window_at(SMALL, 2), (2, ((0, 0, 0), (0, 1, 2))))

    def test_the_latest_first_and_before_counts(self):
        for web in (*webs(40, seed=19), *KINDS):
            rows = going(web, 300)
            for beat in (0, 1, 2, 3, 11, 12, 13, 25, 240, 299, 300):
                self.assertEqual(window_at(web, beat), plain_window(web, rows, beat))

    def test_without_copies_pasts_are_of_no_doings(self):
        for beat in (0, 1, 11, 12, FAR):
            self.assertEqual(window_at(NO_COPIES, beat), (beat % 12, ((), ())))

    def test_pasts_are_as_long_as_the_most_ago_of_all_rules(self):
        idle = alone((own(1),), (own(2, 3), copy(0, 9, circle(9))))
        self.assertEqual(window_at(idle, 3), (1, ((1, 1, 1, 0, 0, 0, 0, 0, 0), (2, 3, 2) + (0,) * 6)))

    def test_far(self):
        for web in (*webs(9, seed=20), *KINDS):
            for beat in FAR_BEATS:
                rest, pasts = told = window_at(web, beat)
                self.assertEqual(rest, beat % plain_clock(web))
                self.assertEqual([len(past) for past in pasts], [plain_ago(web)] * len(web[2]))
                for k in range(plain_ago(web)):
                    self.assertEqual(tuple(past[k] for past in pasts), scene_at(web, beat - 1 - k))
                self.assertTrue(all_whole(told))
                self.assertIs(may_be_window(web, told), True)

    def test_tuples_are_told(self):
        for web in KINDS:
            for beat in (0, 5, FAR):
                told = window_at(web, beat)
                self.assertEqual([type(told), type(told[1])], [tuple, tuple])
                self.assertEqual({type(past) for past in told[1]}, {tuple})


class MayBeWindow(unittest.TestCase):
    def assert_none(self, web, thing):
        """It may be no window, and each that takes windows says so."""
        self.assertIs(may_be_window(web, thing), False)
        with self.assertRaises(NoWindow):
            scene_of(web, thing)
        with self.assertRaises(NoWindow):
            next_window(web, thing)

    def assert_window(self, web, thing):
        self.assertIs(may_be_window(web, thing), True)
        self.assertEqual(len(scene_of(web, thing)), len(web[2]))
        self.assertIs(may_be_window(web, next_window(web, thing)), True)

    def test_windows(self):
        self.assert_window(SMALL, WINDOW)
        for web in (*webs(20, seed=21), *KINDS):
            for beat in (0, 1, 13, FAR):
                self.assert_window(web, window_at(web, beat))

    def test_windows_that_no_beat_has(self):
        for rest in range(12):
            for doing in range(3):
                self.assert_window(SMALL, (rest, ((doing,) * 3, (0, doing, 2))))

    def test_rest(self):
        for rest in (-1, 12, 13, FAR, -FAR, True, False, None, "0", (0,), [0], Odd(), Sore()):
            self.assert_none(SMALL, (rest, WINDOW[1]))
        for rest in (0, 239):
            self.assert_window(WIDE, (rest, window_at(WIDE, 0)[1]))
        self.assert_none(WIDE, (240, window_at(WIDE, 0)[1]))

    def test_doings(self):
        for doing in (-1, 3, 9, FAR, True, False, None, "0", (0,), [0], Odd(), Sore()):
            for past in ((doing, 0, 0), (0, doing, 0), (0, 0, doing)):
                self.assert_none(SMALL, (0, (past, (0, 0, 0))))
                self.assert_none(SMALL, (0, ((0, 0, 0), past)))

    def test_one_more_and_one_fewer(self):
        self.assert_none(SMALL, (0, ((0, 0, 0), (0, 0))))
        self.assert_none(SMALL, (0, ((0, 0, 0, 0), (0, 0, 0))))
        self.assert_none(SMALL, (0, ((), ())))
        self.assert_none(SMALL, (0, ((0, 0, 0),)))
        self.assert_none(SMALL, (0, ((0, 0, 0),) * 3))
        self.assert_none(SMALL, (0, ()))
        self.assert_none(SMALL, (0,))
        self.assert_none(SMALL, (*WINDOW, ()))
        self.assert_none(SMALL, WINDOW[1])
        self.assert_none(SMALL, ())
        self.assert_none(NO_COPIES, (0, ((0,), (0,))))
        self.assert_none(NO_COPIES, (0, ((),)))
        self.assert_none(NO_COPIES, (0, ((), (), ())))
        self.assert_none(NO_COPIES, (0, ()))

    def test_lists_and_other_kinds(self):
        self.assert_none(SMALL, list(WINDOW))
        self.assert_none(SMALL, (11, list(WINDOW[1])))
        self.assert_none(SMALL, (11, ([0, 1, 2], (2, 2, 0))))
        self.assert_none(SMALL, (11, ((0, 1, 2), range(3))))
        self.assert_none(SMALL, (11, ((0, 1, 2), "000")))
        self.assert_none(SMALL, (11, ((0, 1, 2), b"\x00\x00\x00")))
        self.assert_none(NO_COPIES, (0, ("", "")))
        self.assert_none(NO_COPIES, (0, ([], [])))
        self.assert_none(NO_COPIES, (0, [(), ()]))

    def test_windows_of_other_webs(self):
        for one in KINDS:
            for other in KINDS:
                shape = (len(one[2]), plain_ago(one))
                if shape != (len(other[2]), plain_ago(other)):
                    self.assert_none(one, window_at(other, 0))
        self.assert_none(ONE_DOING, (0, ((0, 1, 0),)))

    def test_anything(self):
        for web in (SMALL, NO_COPIES, ONE_DOING):
            for thing in anything():
                self.assert_none(web, thing)
                self.assert_none(web, (0, thing))
        for thing in anything():
            self.assert_none(SMALL, (0, (thing, (0, 0, 0))))
            self.assert_none(SMALL, (0, ((0, 0, 0), thing)))
        for thing in near_misses(WINDOW):
            self.assert_none(SMALL, thing)

    def test_the_refusal(self):
        self.assertTrue(issubclass(NoWindow, HandError))
        for call in (scene_of, next_window):
            with self.assertRaises(NoWindow) as refused:
                call(SMALL, None)
            self.assertIs(type(refused.exception), NoWindow)


class Going(unittest.TestCase):
    def test_as_told_by_hand(self):
        # At rest 11 hand 0 does its own 1 (11 // 2 is 5), hand 1 copies a 0.
        self.assertEqual(scene_of(SMALL, WINDOW), (1, 0))
        self.assertEqual(next_window(SMALL, WINDOW), (0, ((1, 0, 1), (0, 2, 2))))
        # At rest 2 hand 0 copies what hand 1 did three beats ago, a 0.
        self.assertEqual(scene_of(SMALL, (2, WINDOW[1])), (1, 0))
        self.assertEqual(scene_of(SMALL, (2, ((1, 1, 1), (0, 0, 2)))), (0, 2))

    def test_near(self):
        for web in (*webs(30, seed=22), *KINDS):
            rows = going(web, 60)
            for beat in range(40):
                window = plain_window(web, rows, beat)
                self.assertEqual(scene_of(web, window), tuple(row[beat] for row in rows))
                self.assertEqual(next_window(web, window), plain_window(web, rows, beat + 1))

    def test_on_and_on_over_the_clock(self):
        for web in KINDS:
            rows = going(web, 500)
            window = window_at(web, 0)
            for beat in range(500):
                self.assertEqual(window, plain_window(web, rows, beat))
                window = next_window(web, window)

    def test_far(self):
        for web in (*webs(9, seed=23), *KINDS):
            for beat in (FAR - 1, FAR - 2, FAR - 240, 10 ** 17 + 7):
                window = window_at(web, beat)
                self.assertEqual(scene_of(web, window), scene_at(web, beat))
                self.assertEqual(next_window(web, window), window_at(web, beat + 1))

    def test_windows_that_no_beat_has_go_by_their_rest(self):
        # As if all before had been so, and the rest were the beat.
        for past in ((0, 1, 2), (2, 1, 0)):
            for rest in range(12):
                window = (rest, (past, past[::-1]))
                hand_0 = (rest // 2) % 2 if rest % 2 else (1, 2, 0)[past[::-1][2]]
                hand_1 = 1 if rest % 3 == 0 else 2 if rest % 4 == 0 else (0, 2, 1)[past[0]]
                self.assertEqual(scene_of(SMALL, window), (hand_0, hand_1))
                moved_on = ((hand_0, *past[:2]), (hand_1, *past[::-1][:2]))
                self.assertEqual(next_window(SMALL, window), ((rest + 1) % 12, moved_on))

    def test_without_copies(self):
        for rest in range(12):
            self.assertEqual(scene_of(NO_COPIES, (rest, ((), ()))), scene_at(NO_COPIES, rest))
            self.assertEqual(next_window(NO_COPIES, (rest, ((), ()))), ((rest + 1) % 12, ((), ())))

    def test_tuples_are_told(self):
        for web in (SMALL, NO_COPIES, WIDE_CIRCLE):
            window = window_at(web, 7)
            scene, behind = scene_of(web, window), next_window(web, window)
            self.assertIs(type(scene), tuple)
            self.assertEqual([type(behind), type(behind[1]), *map(type, behind[1])], [tuple] * (2 + len(web[2])))
            self.assertTrue(all_whole((scene, behind)))

    def test_what_is_handed_in_stays(self):
        handed = (0, [[0, 1, 2], (2, 2, 0)])
        for call in (scene_of, next_window):
            with self.assertRaises(NoWindow):
                call(MIXED, handed)
        self.assertEqual(handed, (0, [[0, 1, 2], (2, 2, 0)]))


if __name__ == "__main__":
    unittest.main()
