"""Of promises [9] and [10]: traces, and the sources of doings."""

import unittest

from agohands.errors import HandError, TooLong
from agohands.traces import MOST_STEPS, source, trace
from plain import (
    FAR, JUST_IN_TIME, KINDS, MIXED, NO_COPIES, WIDE, WIDE_CIRCLE, all_whole, alone, circle, copy, did, going,
    leads_back, own, rule_of, webs,
)

ON = alone((copy(0, 1, circle(3)),))


def made(turn, times, doing):
    for _ in range(times):
        doing = turn[doing]
    return doing


class Trace(unittest.TestCase):
    def test_as_told_by_hand(self):
        self.assertEqual(trace(MIXED, 0, 2), [(0, 2)])
        self.assertEqual(trace(MIXED, 0, 0), [(0, 0), (1, -1)])
        self.assertEqual(trace(MIXED, 1, 3), [(1, 3), (0, -9)])
        self.assertEqual(trace(MIXED, 0, 7), [(0, 7), (1, 6), (1, 1), (0, -11)])
        self.assertEqual(trace(MIXED, 1, 17), [(1, 17), (0, 5)])
        self.assertEqual(trace(MIXED, 1, 19), [(1, 19), (0, 7), (1, 6), (1, 1), (0, -11)])

    def test_the_beat_below_zero_stands_as_it_is(self):
        for ago in range(1, 13):
            web = alone((copy(0, ago, circle(3)),))
            self.assertEqual(trace(web, 0, 0), [(0, 0), (0, -ago)])
            self.assertEqual(trace(web, 0, 3)[-1], (0, 3 % ago - ago))

    def test_as_led_back_one_by_one(self):
        for web in (*webs(60, seed=9), *KINDS):
            for beat in (0, 1, 2, 11, 12, 13, 59, 240, 399):
                for hand in range(len(web[2])):
                    self.assertEqual(trace(web, hand, beat), leads_back(web, hand, beat))

    def test_behind_a_copy_stands_what_is_copied_till_it_is_not_one(self):
        for web in webs(30, seed=10):
            told = trace(web, 0, 333)
            for (hand, beat), behind in zip(told, told[1:]):
                _, copied, ago, _ = rule_of(web, hand, beat)[2]
                self.assertEqual(behind, (copied, beat - ago))
                self.assertGreaterEqual(beat, 0)
            hand, beat = told[-1]
            self.assertTrue(beat < 0 or rule_of(web, hand, beat)[2][0] == "own")

    def test_far_and_short(self):
        web = alone((own(0, every=5, at=3), copy(0, 1, circle(2))), (copy(0, 12, circle(2)),))
        self.assertEqual(trace(web, 0, FAR), [(0, FAR), (0, FAR - 1), (0, FAR - 2)])
        self.assertEqual(trace(web, 1, FAR), [(1, FAR), (0, FAR - 12)])
        self.assertEqual(trace(web, 1, FAR, most=2), [(1, FAR), (0, FAR - 12)])
        self.assertEqual(trace(web, 0, FAR - 2), [(0, FAR - 2)])
        self.assertEqual(trace(NO_COPIES, 1, FAR), [(1, FAR)])

    def test_far_and_long(self):
        for most in (0, 1, 500, 5000):
            for web in (ON, WIDE_CIRCLE):
                with self.assertRaises(TooLong):
                    trace(web, 0, FAR, most=most)
        with self.assertRaises(TooLong):
            trace(ON, 0, FAR)

    def test_just_so_many_and_one_fewer(self):
        for web in (*webs(30, seed=11), *KINDS):
            whole = leads_back(web, 0, 97)
            for most in (len(whole), len(whole) + 1, 5000):
                self.assertEqual(trace(web, 0, 97, most=most), whole)
            for most in {len(whole) - 1, 1, 0}:
                if most < len(whole):
                    with self.assertRaises(TooLong):
                        trace(web, 0, 97, most=most)

    def test_none_let(self):
        for web in (ON, NO_COPIES):
            with self.assertRaises(TooLong):
                trace(web, 0, 0, most=0)
        self.assertEqual(trace(NO_COPIES, 0, 0, most=1), [(0, 0)])

    def test_most_left_out(self):
        self.assertIs(type(MOST_STEPS), int)
        self.assertEqual(MOST_STEPS, 500)
        self.assertEqual(len(trace(ON, 0, 498)), 500)
        with self.assertRaises(TooLong):
            trace(ON, 0, 499)
        self.assertEqual(len(trace(ON, 0, 4998, most=5000)), 5000)
        with self.assertRaises(TooLong):
            trace(ON, 0, 4999, most=5000)

    def test_most_is_handed_in_by_its_name(self):
        with self.assertRaises(TypeError):
            trace(ON, 0, 3, 10)

    def test_the_refusal(self):
        self.assertTrue(issubclass(TooLong, HandError))
        with self.assertRaises(TooLong) as refused:
            trace(ON, 0, 4, most=5)
        self.assertIs(type(refused.exception), TooLong)
        self.assertEqual(len(trace(ON, 0, 4, most=6)), 6)

    def test_the_list_is_the_askers_own(self):
        one, other = trace(MIXED, 0, 7), trace(MIXED, 0, 7)
        self.assertIsNot(one, other)
        self.assertIs(type(one), list)
        self.assertEqual({type(part) for part in one}, {tuple})
        self.assertTrue(all_whole(one))
        one.clear()
        self.assertEqual(trace(MIXED, 0, 7), other)


class Source(unittest.TestCase):
    def assert_as_traced(self, web, hand, beat, rows):
        way = leads_back(web, hand, beat)
        told = source(web, hand, beat)
        self.assertIs(type(told), tuple)
        self.assertTrue(all_whole(told))
        last, at = way[-1]
        self.assertEqual((told[0], told[1], told[3]), (last, max(at, -1), len(way) - 1))
        turns = [rule_of(web, *place)[2][3] for place in way[:-1]]
        for doing in range(web[0]):
            end = doing
            for turn in reversed(turns):
                end = turn[end]
            self.assertEqual(told[2][doing], end)
        self.assertEqual(len(told[2]), web[0])
        self.assertEqual(told[2][did(web, rows, last, at)], rows[hand][beat])

    def test_as_told_by_hand(self):
        self.assertEqual(source(MIXED, 0, 2), (0, 2, (0, 1, 2), 0))
        self.assertEqual(source(MIXED, 0, 0), (1, -1, (1, 2, 0), 1))
        self.assertEqual(source(MIXED, 0, 7), (0, -1, (0, 0, 0), 3))
        self.assertEqual(source(MIXED, 1, 17), (0, 5, (2, 2, 2), 1))

    def test_the_eldest_turn_first(self):
        eldest, youngest = (1, 0, 2), (0, 2, 1)
        web = (3, (0, 0), ((copy(1, 1, youngest),), (copy(1, 12, eldest),)))
        self.assertEqual(source(web, 0, 1), (1, -1, (2, 0, 1), 2))

    def test_the_way_there_and_what_is_left_of_the_circle(self):
        # From hand 0 by one turn to hand 1, which goes round with hand 2 by
        # two more: no two of the three may be exchanged.
        one, two, three = (1, 0, 2, 3), (0, 2, 1, 3), (0, 1, 3, 2)
        web = (4, (0, 0, 0), ((copy(1, 5, one),), (copy(2, 2, two),), (copy(1, 3, three),)))
        for beat in range(60):
            self.assert_as_traced(web, 0, beat, going(web, 60))

    def test_as_traced(self):
        for web in (*webs(60, seed=12), *KINDS):
            rows = going(web, 700)
            for beat in (0, 1, 2, 11, 12, 13, 59, 240, 399, 699):
                for hand in range(len(web[2])):
                    self.assert_as_traced(web, hand, beat, rows)

    def test_as_traced_where_ways_are_long(self):
        rows = going(WIDE_CIRCLE, 9000)
        for beat in (1500, 1679, 1680, 3000, 8999):
            self.assert_as_traced(WIDE_CIRCLE, beat % 6, beat, rows)

    def test_any_beat_below_zero_is_told_as_one(self):
        for ago in range(1, 13):
            web = alone((copy(0, ago, circle(3)),))
            for beat in range(30):
                self.assertEqual(source(web, 0, beat)[:2], (0, -1))

    def test_a_hand_of_its_own(self):
        stays = (0, 1, 2, 3)
        for beat in (0, 5, FAR - 1, FAR):
            self.assertEqual(source(NO_COPIES, 0, beat), (0, beat, stays, 0))

    def test_far_by_one_turn(self):
        for ago in (1, 2, 5, 7, 12):
            for turn, comes_again in ((circle(9), 9), (circle(4), 4), ((1, 2, 0, 4, 3, 5, 6, 7, 8), 6)):
                web = alone((copy(0, ago, turn),))
                for beat in (FAR, FAR - 1, FAR - 11, 10 ** 17 + 3, 2 ** 59, 10 ** 6 + 1):
                    copies = beat // ago + 1
                    whole = tuple(made(turn, copies % comes_again, doing) for doing in range(9))
                    self.assertEqual(source(web, 0, beat), (0, -1, whole, copies))

    def test_far_by_a_turn_that_settles(self):
        web = alone((copy(0, 3, (1, 2, 3, 4, 4)),), many=5)
        self.assertEqual(source(web, 0, FAR), (0, -1, (4,) * 5, FAR // 3 + 1))
        self.assertEqual(source(web, 0, 7), (0, -1, (3, 4, 4, 4, 4), 3))

    def test_far_by_turn_about(self):
        # Two beats back for each two copies: so many copies as beats and one.
        web = (3, (0, 1), ((copy(1, 1, (1, 2, 0)),), (copy(0, 1, (1, 0, 2)),)))
        for beat in (FAR, FAR - 1, FAR - 2, FAR - 3):
            for hand in (0, 1):
                doing_last = ((1, 2, 0), (1, 0, 2))[hand]
                doing_first = ((1, 2, 0), (1, 0, 2))[(hand + beat) % 2]
                told = source(web, hand, beat)
                self.assertEqual(told[3], beat + 1)
                self.assertEqual(told[:2], ((hand + beat + 1) % 2, -1))
                # Both turns together exchange two doings: done twice they do nothing.
                pairs = (beat + 1) // 2 % 2
                whole = (0, 1, 2)
                for _ in range(pairs):
                    other = ((1, 2, 0), (1, 0, 2))[1 - hand]
                    whole = tuple(doing_last[other[doing]] for doing in whole)
                if beat % 2 == 0:
                    whole = tuple(whole[doing_first[doing]] for doing in range(3))
                self.assertEqual(told[2], whole)

    def test_far_of_its_own(self):
        self.assertEqual(source(MIXED, 1, FAR)[1] % 3, 2)
        told = source(WIDE, 5, FAR)
        self.assertEqual(told[:2], leads_back(WIDE, 5, FAR)[-1])
        self.assertEqual(told[3], len(leads_back(WIDE, 5, FAR)) - 1)

    def test_far_copies_stand_behind_one_another(self):
        for web in (WIDE_CIRCLE, JUST_IN_TIME):
            for beat in (FAR, FAR - 7, FAR - 1000, 10 ** 9):
                for hand in range(len(web[2])):
                    _, copied, ago, turn = rule_of(web, hand, beat)[2]
                    last, at, older, copies = source(web, copied, beat - ago)
                    whole = tuple(turn[older[doing]] for doing in range(web[0]))
                    self.assertEqual(source(web, hand, beat), (last, at, whole, copies + 1))


if __name__ == "__main__":
    unittest.main()
