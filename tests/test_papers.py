"""Of promises [23] and [24]: papers of rounds and of sources, and their faults."""

import unittest
from random import Random

from agohands.errors import HandError, TooLong
from agohands.far import doing_at
from agohands.papers import round_fault, round_paper, source_fault, source_paper
from agohands.traces import source
from agohands.windows import web_round, window_at
from plain import (
    APART, FAR, FROM_THE_FIRST, JUST_IN_TIME, JUST_TOO_LATE, KINDS, MIXED, NO_COPIES, ONE_DOING, WIDE, WIDE_CIRCLE,
    alone, chain, circle, copy, going, leads_back, number_of, own, plain_clock, plain_round, plain_window, webs,
)
from things import anything, near_misses

ON = alone((copy(0, 1, circle(3)),))
SETTLES = alone((copy(0, 1, chain(4)),))
FORM = ("form",)


class Rounds(unittest.TestCase):
    def test_as_told_by_hand(self):
        self.assertEqual(round_paper(ON, 0), (ON, 0, 0, 3, (0, ((0,),))))
        self.assertEqual(round_paper(SETTLES, 0), (SETTLES, 0, 4, 1, (0, ((4,),))))
        self.assertEqual(round_paper(NO_COPIES, 1), (NO_COPIES, 1, 0, 12, (0, ((), ()))))

    def test_the_webs_round_and_its_window_there(self):
        for web in (*webs(30, seed=1), *KINDS):
            rows = going(web, 5000)
            told = plain_round(web, rows)
            for hand in range(len(web[2])):
                if told is None:
                    with self.assertRaises(TooLong):
                        round_paper(web, hand)
                else:
                    paper = round_paper(web, hand)
                    self.assertEqual(paper, (web, hand, *told, plain_window(web, rows, told[0])))
                    self.assertIs(type(paper), tuple)
                    self.assertIsNone(round_fault(paper))

    def test_not_round_in_time(self):
        for web in (APART, JUST_TOO_LATE, WIDE_CIRCLE):
            with self.assertRaises(TooLong) as refused:
                round_paper(web, 0)
            self.assertIsInstance(refused.exception, HandError)
        self.assertEqual(round_paper(JUST_IN_TIME, 0)[2:4], (50, 4950))
        self.assertEqual(round_paper(FROM_THE_FIRST, 0)[2:4], (0, 5000))

    def test_no_fault_of_later_firsts_and_more_rounds(self):
        for web in (*webs(20, seed=2), MIXED, WIDE, SETTLES, NO_COPIES, ONE_DOING):
            try:
                first, again = web_round(web)
            except TooLong:
                continue
            for later in (first, first + 1, first + again, 10 ** 9 + first, 10 ** 17 + first):
                window = window_at(web, later)
                for times in (1, 2, 3, 10 ** 9, (FAR - later) // again):
                    self.assertIsNone(round_fault((web, 0, later, again * times, window)))

    def test_no_fault_of_webs_that_go_round_too_late_to_be_told(self):
        # The hands of APART come again behind 50, 99 and 49 beats, the last one
        # in windows that look back no further than its own before.
        again = 50 * 99 * 49
        for first in (4, 5, 10 ** 9, FAR - again):
            self.assertIsNone(round_fault((APART, 2, first, again, window_at(APART, first))))
        for first, wrong in ((0, again), (3, again), (4, 4950), (4, again + 1), (4, again // 7)):
            self.assertEqual(round_fault((APART, 0, first, wrong, window_at(APART, first))), ("comes",))

    def test_to_the_last_beat(self):
        again = FAR // 3 * 3
        for first in (0, 1):
            self.assertIsNone(round_fault((ON, 0, first, again, window_at(ON, first))))
        self.assertEqual(round_fault((ON, 0, 2, again, window_at(ON, 2))), FORM)
        self.assertIsNone(round_fault((SETTLES, 0, FAR - 1, 1, (0, ((4,),)))))
        self.assertEqual(round_fault((SETTLES, 0, FAR, 1, (0, ((4,),)))), FORM)
        self.assertEqual(round_fault((SETTLES, 0, 10 ** 40, 1, (0, ((4,),)))), FORM)
        self.assertEqual(round_fault((SETTLES, 0, 4, 10 ** 40, (0, ((4,),)))), FORM)

    def test_form_of_anything(self):
        good = round_paper(MIXED, 0)
        self.assertIsNone(round_fault(good))
        for thing in anything():
            self.assertEqual(round_fault(thing), FORM)
            for k in (0, 4):
                self.assertEqual(round_fault((*good[:k], thing, *good[k + 1:])), FORM)
            if type(thing) is not int:
                for k in range(5):
                    self.assertEqual(round_fault((*good[:k], thing, *good[k + 1:])), FORM)
        for thing in near_misses(good):
            self.assertEqual(round_fault(thing), FORM)

    def test_form_of_other_sizes_and_bounds(self):
        web, hand, first, again, window = good = round_paper(MIXED, 1)
        for thing in (good[:4], (*good, 0), (), list(good), good[::-1]):
            self.assertEqual(round_fault(thing), FORM)
        for wrong in (2, -1, 5, FAR, -FAR):
            self.assertEqual(round_fault((web, wrong, first, again, window)), FORM)
        for wrong in (-1, -again, -FAR):
            self.assertEqual(round_fault((web, hand, wrong, again, window)), FORM)
        for wrong in (0, -1, -again, -FAR):
            self.assertEqual(round_fault((web, hand, first, wrong, window)), FORM)
        rest, pasts = window
        for wrong in ((12, pasts), (-1, pasts), (rest, pasts[:1]), (rest, (*pasts, pasts[0])), (rest, (pasts[0], ()))):
            self.assertEqual(round_fault((web, hand, first, again, wrong)), FORM)

    def test_begins(self):
        for web in (MIXED, WIDE, SETTLES):
            _, hand, first, again, window = round_paper(web, 0)
            rest, pasts = window
            other = ((pasts[0][0] + 1) % web[0], *pasts[0][1:])
            self.assertEqual(round_fault((web, hand, first, again, (rest, (other, *pasts[1:])))), ("begins",))
            if plain_clock(web) > 1:
                rest = (rest + 1) % plain_clock(web)
                self.assertEqual(round_fault((web, hand, first, again, (rest, pasts))), ("begins",))
                self.assertEqual(round_fault((web, hand, first + 1, again, window)), ("begins",))
        # Ahead of what is seen behind the round.
        self.assertEqual(round_fault((SETTLES, 0, 3, 1, (0, ((4,),)))), ("begins",))
        self.assertEqual(round_fault((ON, 0, 1, 1, (0, ((0,),)))), ("begins",))

    def test_comes(self):
        self.assertEqual(round_fault((SETTLES, 0, 3, 1, (0, ((3,),)))), ("comes",))
        self.assertEqual(round_fault((SETTLES, 0, 0, 10 ** 17, (0, ((0,),)))), ("comes",))
        for again in (1, 2, 4, FAR // 3 * 3 - 1):
            self.assertEqual(round_fault((ON, 0, 0, again, (0, ((0,),)))), ("comes",))
        for web in (MIXED, WIDE):
            _, hand, first, again, window = round_paper(web, 0)
            for wrong in (again + 1, again - 1, 1, 10 ** 9 * again + 1):
                self.assertEqual(round_fault((web, hand, first, wrong, window)), ("comes",))
            if first:
                ahead = window_at(web, first - 1)
                self.assertEqual(round_fault((web, hand, first - 1, again, ahead)), ("comes",))


def rows_back(web, hand, beat):
    """The rows (hand, rule) of all copies, and of each the hand and its beat's rest, one by one."""
    rows, places = [], []
    for hand, beat in leads_back(web, hand, beat):
        if beat >= 0:
            number = number_of(web[2][hand], beat)
            if web[2][hand][number][2][0] == "copy":
                rows.append((hand, number))
                places.append((hand, beat % plain_clock(web)))
    return rows, places


def plain_path(web, hand, beat):
    """The told path, found by looking at all rows."""
    rows, places = rows_back(web, hand, beat)
    for start, place in enumerate(places):
        if place in places[start + 1:]:
            size = places.index(place, start + 1) - start
            whole = (len(rows) - start) // size
            parts = [
                (rows[:start], 1), (rows[start:start + size], whole), (rows[start + size * whole:], 1),
            ]
            return [(tuple(part), times) for part, times in parts if part]
    return [(tuple(rows), 1)] if rows else []


class Sources(unittest.TestCase):
    def test_as_told_by_hand(self):
        self.assertEqual(source_paper(ON, 0, 0), (ON, 0, 0, 1, (0, -1, circle(3), 1), [(((0, 0),), 1)]))
        self.assertEqual(source_paper(ON, 0, 4), (ON, 0, 4, 2, (0, -1, (2, 0, 1, *range(3, 9)), 5), [(((0, 0),), 5)]))
        self.assertEqual(source_paper(NO_COPIES, 1, FAR), (NO_COPIES, 1, FAR, 1, (1, FAR, (0, 1, 2, 3), 0), []))
        self.assertEqual(
            source_paper(MIXED, 0, 7), (MIXED, 0, 7, 0, (0, -1, (0, 0, 0), 3), [(((0, 1), (1, 2), (1, 0)), 1)]),
        )

    def test_as_led_back_rule_by_rule(self):
        for web in (*webs(50, seed=3), *KINDS):
            for beat in (0, 1, 5, 12, 61, 240, 399, 960):
                for hand in range(len(web[2])):
                    told = source_paper(web, hand, beat)
                    self.assertEqual(told[:5], (web, hand, beat, doing_at(web, hand, beat), source(web, hand, beat)))
                    self.assertEqual(told[5], plain_path(web, hand, beat))
                    self.assertIsNone(source_fault(told))

    def test_what_is_told(self):
        for web in KINDS:
            told = source_paper(web, 0, 1000)
            self.assertIs(type(told), tuple)
            self.assertIs(type(told[5]), list)
            for part in told[5]:
                self.assertIs(type(part), tuple)
                self.assertIs(type(part[0]), tuple)
                self.assertIs(type(part[1]), int)
                self.assertTrue(part[0])
            other = source_paper(web, 0, 1000)
            self.assertIsNot(told[5], other[5])
            told[5].append(None)
            self.assertEqual(source_paper(web, 0, 1000), other)

    def test_a_hand_that_goes_by_an_own_rule_has_an_empty_path(self):
        web = alone((own(3, every=2), copy(0, 1, circle(4))))
        for beat in (0, 2, 10 ** 9, FAR):
            self.assertEqual(source_paper(web, 0, beat)[5], [])
        for beat in (1, 3, FAR - 1):
            self.assertEqual(source_paper(web, 0, beat)[5], [(((0, 1),), 1)])

    def test_far(self):
        for web in (*webs(60, seed=4), *KINDS):
            for beat in (10 ** 9, FAR - 1, FAR):
                hand = beat % len(web[2])
                paper = source_paper(web, hand, beat)
                path = paper[5]
                self.assertLessEqual(len(path), 3)
                self.assertEqual(sum(len(rows) * times for rows, times in path), source(web, hand, beat)[3])
                self.assertIsNone(source_fault(paper))

    def test_far_as_near_but_for_how_often(self):
        # A circle of rows that is gone through once more takes its own beats more.
        for web in (*webs(60, seed=5), *KINDS):
            for hand in range(len(web[2])):
                near = source_paper(web, hand, 36001)
                repeated = [k for k, (rows, times) in enumerate(near[5]) if times > 1]
                if not repeated:
                    continue
                k = repeated[0]
                rows, times = near[5][k]
                beats = sum(web[2][by][rule][2][2] for by, rule in rows)
                self.assertEqual(beats % plain_clock(web), 0)
                for more in (1, 10 ** 9, (FAR - 36001) // beats):
                    path = source_paper(web, hand, 36001 + more * beats)[5]
                    self.assertEqual(path, [*near[5][:k], (rows, times + more), *near[5][k + 1:]])

    def test_parts_without_rows_are_left_out(self):
        two = alone((copy(0, 2, circle(3), every=2), copy(0, 1, circle(2))))
        self.assertEqual(source_paper(two, 0, 1)[5], [(((0, 1), (0, 0)), 1)])
        self.assertEqual(source_paper(two, 0, 6)[5], [(((0, 0),), 4)])
        self.assertEqual(source_paper(two, 0, 7)[5], [(((0, 1),), 1), (((0, 0),), 4)])
        # The circle of two rows: whole, and with one row left.
        pair = alone((copy(1, 1, circle(3)),), (copy(0, 1, circle(4)),))
        self.assertEqual(source_paper(pair, 0, 3)[5], [(((0, 0), (1, 0)), 2)])
        self.assertEqual(source_paper(pair, 0, 4)[5], [(((0, 0), (1, 0)), 2), (((0, 0),), 1)])
        self.assertEqual(source_paper(pair, 0, 1)[5], [(((0, 0), (1, 0)), 1)])
        self.assertEqual(source_paper(pair, 0, 2)[5], [(((0, 0), (1, 0)), 1), (((0, 0),), 1)])
        led = alone((copy(1, 1, circle(3)),), (copy(1, 2, circle(4)),))
        self.assertEqual(source_paper(led, 0, 9)[5], [(((0, 0),), 1), (((1, 0),), 5)])


def with_path(paper, path):
    return (*paper[:5], path)


def one_by_one(path):
    return [((row,), 1) for rows, times in path for _ in range(times) for row in rows]


class NoFault(unittest.TestCase):
    def test_the_same_rows_one_by_one(self):
        for web in (*webs(40, seed=6), *KINDS):
            for beat in (0, 7, 300, 1200):
                paper = source_paper(web, 0, beat)
                self.assertIsNone(source_fault(with_path(paper, one_by_one(paper[5]))))

    def test_five_thousand_rows_one_by_one(self):
        for web in (ON, WIDE_CIRCLE):
            _, beat = leads_back(web, 0, 40000)[5000]
            paper = source_paper(web, 0, 40000 - beat - 1)
            rows = one_by_one(paper[5])
            self.assertGreater(len(rows), 4000)
            self.assertIsNone(source_fault(with_path(paper, rows)))
            self.assertEqual(source_fault(with_path(paper, rows[:-1])), ("ends",))

    def test_the_same_rows_in_other_parts(self):
        chance = Random(7)
        for web in (*webs(60, seed=8), *KINDS):
            paper = source_paper(web, 0, 700)
            rows = [row for (row,), _ in one_by_one(paper[5])]
            path = []
            while rows:
                size = chance.randint(1, 40)
                part, rows = tuple(rows[:size]), rows[size:]
                times = 1
                while tuple(rows[:len(part)]) == part and chance.random() < 0.9:
                    times, rows = times + 1, rows[len(part):]
                path.append((part, times))
            self.assertIsNone(source_fault(with_path(paper, path)))

    def test_rows_that_stand_so_many_times_over(self):
        for web in (*webs(40, seed=9), *KINDS):
            paper = source_paper(web, 0, FAR)
            path = []
            for rows, times in paper[5]:
                if times > 6:
                    # Once, then twice three rows of them, then all others.
                    path += [(rows, 1), (rows * 3 if len(rows) < 600 else rows, 2)]
                    times -= 7 if len(rows) < 600 else 3
                    # Turned about: the last ones once more stand alone.
                    if len(rows) > 1:
                        path += [(rows[:1], 1), ((*rows[1:], rows[0]), times - 1), (rows[1:], 1)]
                        continue
                path.append((rows, times))
            self.assertIsNone(source_fault(with_path(paper, path)))

    def test_two_thousand_rows(self):
        row = (0, 0)
        paper = source_paper(ON, 0, 5999)
        self.assertIsNone(source_fault(with_path(paper, [((row,) * 2000, 3)])))
        self.assertIsNone(source_fault(with_path(paper, [((row,) * 1999, 3), ((row,), 3)])))
        self.assertEqual(source_fault(with_path(paper, [((row,) * 2001, 2), ((row,) * 1998, 1)])), FORM)
        far = source_paper(ON, 0, FAR - 1)
        self.assertIsNone(source_fault(with_path(far, [((row,) * 2000, FAR // 2000)])))


class Faults(unittest.TestCase):
    def test_form_of_anything(self):
        good = source_paper(MIXED, 0, 7)
        self.assertIsNone(source_fault(good))
        for thing in anything():
            self.assertEqual(source_fault(thing), FORM)
            for k in (0, 4):
                self.assertEqual(source_fault((*good[:k], thing, *good[k + 1:])), FORM)
            if type(thing) is not int:
                for k in (1, 2, 3):
                    self.assertEqual(source_fault((*good[:k], thing, *good[k + 1:])), FORM)
            if type(thing) is not list or thing:
                self.assertEqual(source_fault(with_path(good, thing)), FORM)
            for path in ([thing], [good[5][0], thing], [(thing, 1)], [((thing,), 1)], [(((0, 1), thing), 1)]):
                self.assertEqual(source_fault(with_path(good, path)), FORM)
            if type(thing) is not int:
                for path in ([(((thing, 1),), 1)], [(((0, thing),), 1)], [(((0, 1),), thing)]):
                    self.assertEqual(source_fault(with_path(good, path)), FORM)
        for thing in near_misses(good):
            self.assertEqual(source_fault(thing), FORM)

    def test_form_of_the_paper(self):
        web, hand, beat, doing, told, path = good = source_paper(MIXED, 0, 7)
        for thing in (good[:5], (*good, 0), (), list(good)):
            self.assertEqual(source_fault(thing), FORM)
        for wrong in (2, -1, FAR):
            self.assertEqual(source_fault((web, wrong, beat, doing, told, path)), FORM)
        for wrong in (-1, FAR + 1, -FAR, 10 ** 40):
            self.assertEqual(source_fault((web, hand, wrong, doing, told, path)), FORM)
        for wrong in (3, -1, FAR):
            self.assertEqual(source_fault((web, hand, beat, wrong, told, path)), FORM)

    def test_form_of_the_source(self):
        good = source_paper(MIXED, 0, 7)
        by, at, turn, copies = good[4]
        for wrong in (
            (by, at, turn), (*good[4], 0), [by, at, turn, copies], (2, at, turn, copies), (-1, at, turn, copies),
            (by, -2, turn, copies), (by, -FAR, turn, copies), (by, at, turn[:2], copies), (by, at, (0, 0, 3), copies),
            (by, at, (*turn, 0), copies), (by, at, list(turn), copies), (by, at, turn, -1), (by, True, turn, copies),
            (by, at, turn, True), (True, at, turn, copies),
        ):
            self.assertEqual(source_fault((*good[:4], wrong, good[5])), FORM)

    def test_form_of_the_path(self):
        good = source_paper(MIXED, 0, 7)
        rows, times = good[5][0]
        for wrong in (
            tuple(good[5]), [(rows,)], [(rows, times, 1)], [[rows, times]], [(list(rows), times)], [((), 1)],
            [(rows, 0)], [(rows, -1)], [(rows, True)], [(((0, -1),), 1)], [(((-1, 0),), 1)], [(((0, 1, 2),), 1)],
            [(((0,),), 1)], [((0, 1), 1)], [(((True, 1),), 1)], [(((0, True),), 1)], [([0, 1], 1)], [(([0, 1],), 1)],
        ):
            self.assertEqual(source_fault(with_path(good, wrong)), FORM)
            # Ahead of a row that isn't due.
            if type(wrong) is list:
                self.assertEqual(source_fault(with_path(good, [(((7, 7),), 1), *wrong])), FORM)

    def test_rows_that_are_not_due(self):
        good = source_paper(MIXED, 0, 7)
        rows = ((0, 1), (1, 2), (1, 0))
        self.assertEqual(good[5], [(rows, 1)])
        for k in range(3):
            for wrong in ((1 - rows[k][0], rows[k][1]), (rows[k][0], (rows[k][1] + 1) % 3), (FAR, 0), (0, FAR)):
                whole = (*rows[:k], wrong, *rows[k + 1:])
                self.assertEqual(source_fault(with_path(good, [(whole, 1)])), ("path", 0))
                parts = [((row,), 1) for row in whole]
                self.assertEqual(source_fault(with_path(good, parts)), ("path", k))

    def test_rows_by_an_own_rule(self):
        web = alone((own(3, every=2), copy(0, 1, circle(4))))
        paper = source_paper(web, 0, 5)
        self.assertEqual(paper[5], [(((0, 1),), 1)])
        for wrong in ((0, 0), (0, 1)):
            self.assertEqual(source_fault(with_path(paper, [(((0, 1),), 1), ((wrong,), 1)])), ("path", 1))
            self.assertEqual(source_fault(with_path(paper, [(((0, 1), wrong), 1)])), ("path", 0))
        self.assertEqual(source_fault(with_path(paper, [(((0, 1),), 2)])), ("path", 0))
        even = source_paper(web, 0, 6)
        self.assertEqual(source_fault(with_path(even, [(((0, 0),), 1)])), ("path", 0))

    def test_rows_below_beat_zero(self):
        for beat in (0, 1, 5, 1999, FAR):
            paper = source_paper(ON, 0, beat)
            self.assertEqual(source_fault(with_path(paper, [*paper[5], (((0, 0),), 1)])), ("path", 1))
            self.assertEqual(source_fault(with_path(paper, [(((0, 0),), beat + 2)])), ("path", 0))
            self.assertIsNone(source_fault(with_path(paper, [(((0, 0),), beat + 1)])))

    def test_times_far_greater_than_there_are_beats(self):
        for web in (ON, MIXED, WIDE_CIRCLE):
            for beat in (5, 999, FAR):
                paper = source_paper(web, 0, beat)
                for k, (rows, times) in enumerate(paper[5]):
                    for more in (10 ** 19, 10 ** 40, 10 ** 5000):
                        path = [*paper[5][:k], (rows, times + more)]
                        self.assertEqual(source_fault(with_path(paper, path)), ("path", k))

    def test_rows_alike_for_long(self):
        # All rows but those far on are as due, once around and once again.
        paper = source_paper(WIDE_CIRCLE, 0, FAR)
        rows, times = paper[5][0]
        self.assertEqual(len(rows), 1440)
        for more in (1, 2, 559, 560):
            longer = (*rows, *rows[:more])
            self.assertEqual(source_fault(with_path(paper, [(longer, 1)])), ("ends",))
            self.assertEqual(source_fault(with_path(paper, [(longer, 2)])), ("path", 0))
            self.assertEqual(source_fault(with_path(paper, [(longer, times // 2)])), ("path", 0))
        for k in (0, 1, 700, 1439):
            other = (*rows[:k], (rows[k][0], rows[k][1] + 1), *rows[k + 1:])
            self.assertEqual(source_fault(with_path(paper, [(rows, 1), (other, times - 1), *paper[5][1:]])), ("path", 1))

    def test_rows_alike_till_the_way_goes_round(self):
        # Its way back goes by one rule many times, and then by another for ever.
        web = alone(*[(copy(min(hand + 1, 5), 1, circle(2)),) for hand in range(6)])
        paper = source_paper(web, 0, FAR)
        self.assertEqual(paper[5], [(tuple((hand, 0) for hand in range(5)), 1), (((5, 0),), FAR - 4)])
        self.assertEqual(source_fault(with_path(paper, [(((0, 0),), FAR)])), ("path", 0))
        self.assertEqual(source_fault(with_path(paper, [(((0, 0), (1, 0), (2, 0)), 2)])), ("path", 0))
        self.assertEqual(
            source_fault(with_path(paper, [paper[5][0], (((5, 0),), FAR - 5), (((4, 0),), 1)])), ("path", 2),
        )

    def test_ends(self):
        for web in (ON, WIDE_CIRCLE, MIXED):
            for beat in (7, 1000, FAR):
                paper = source_paper(web, 0, beat)
                if paper[5]:
                    self.assertEqual(source_fault(with_path(paper, [])), ("ends",))
                    rows, times = paper[5][-1]
                    ahead = paper[5][:-1]
                    if len(rows) > 1:
                        self.assertEqual(source_fault(with_path(paper, [*ahead, (rows[:-1], 1)])), ("ends",))
                    if times > 1:
                        self.assertEqual(source_fault(with_path(paper, [*ahead, (rows, times - 1)])), ("ends",))

    def others(self, told, web):
        by, at, turn, copies = told
        turned = ((turn[0] + 1) % web[0], *turn[1:])
        hand = (by + 1) % len(web[2])
        return [(by, at + 1, turn, copies), (by, at, turned, copies), (by, at, turn, copies + 1)] + (
            [(hand, at, turn, copies)] if hand != by else []) + (
            [(by, at - 1, turn, copies)] if at >= 0 else []) + (
            [(by, at, turn, copies - 1)] if copies else [])

    def test_source(self):
        for web in (MIXED, ON, WIDE, WIDE_CIRCLE, NO_COPIES):
            for beat in (3, 7, 1000, FAR):
                good = source_paper(web, 0, beat)
                for wrong in self.others(good[4], web):
                    self.assertEqual(source_fault((*good[:4], wrong, good[5])), ("source",))
                    # Ahead of a wrong doing, behind all of the path.
                    doing = (good[3] + 1) % web[0]
                    self.assertEqual(source_fault((*good[:3], doing, wrong, good[5])), ("source",))
                    if good[5]:
                        self.assertEqual(source_fault((*good[:3], doing, wrong, [])), ("ends",))
                    path = [(((5, 5),), 1), *good[5]]
                    self.assertEqual(source_fault((*good[:3], doing, wrong, path)), ("path", 0))

    def test_doing(self):
        for web in (*webs(30, seed=10), MIXED, ON, WIDE, WIDE_CIRCLE, NO_COPIES):
            for beat in (0, 7, 1000, FAR):
                good = source_paper(web, 0, beat)
                for doing in range(web[0]):
                    fault = None if doing == good[3] else ("doing",)
                    self.assertEqual(source_fault((*good[:3], doing, *good[4:])), fault)

    def test_the_paper_handed_in_stays(self):
        paper = source_paper(MIXED, 0, 7)
        for path in ([(((0, 1), (1, 2), (1, 0)), 1)], [(((0, 1),), 1)], [(((0, 0),), 1)], [None, [1]]):
            handed = list(path)
            for _ in range(2):
                told = source_fault(with_path(paper, handed))
            self.assertEqual(handed, path)
            self.assertEqual(told, source_fault(with_path(paper, list(path))))


if __name__ == "__main__":
    unittest.main()
