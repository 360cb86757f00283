"""Of promises [18], [19] and [20]: where hands part, and webs by other names or side by side."""

import unittest
from itertools import permutations
from random import Random

from agohands.errors import HandError, NotLike, TooLong
from agohands.far import doing_at, scene_at
from agohands.likeness import first_apart, first_parted, order_of, renamed, side_by_side
from agohands.webs import clock, is_web
from plain import (
    APART, FAR, JUST_IN_TIME, JUST_TOO_LATE, KINDS, MIXED, NO_COPIES, ONE_DOING, WIDE, WIDE_CIRCLE, all_whole, alone,
    chain, circle, copy, going, own, plain_round, webs,
)
from things import Odd, Sore, anything

TOO_LONG = (APART, JUST_TOO_LATE, WIDE_CIRCLE)
STAYS = tuple(range(9))


def rows_on(web, beats):
    """Its rows, by its windows' round where they are longer than 5,000; None of a web not in time."""
    rows = going(web, 5000)
    known = plain_round(web, rows)
    if known is None:
        return None
    first, again = known
    return [(row[:first] + row[first:first + again] * (beats // again + 1))[:beats] for row in rows]


def in_time(count, seed):
    return [web for web in (*webs(count, seed), MIXED, WIDE, NO_COPIES, JUST_IN_TIME, ONE_DOING) if rows_on(web, 1)]


def plainly_apart(row, its):
    """The least beat at which the rows, far longer than both rounds, part."""
    return next((beat for beat, (one, other) in enumerate(zip(row, its)) if one != other), None)


class FirstApart(unittest.TestCase):
    def test_a_hand_with_itself(self):
        for web in in_time(20, seed=40):
            for hand in range(len(web[2])):
                self.assertIsNone(first_apart(web, hand, web, hand))

    def test_at_once_late_and_never(self):
        one, other = alone((own(1),)), alone((own(2),))
        self.assertEqual(first_apart(one, 0, other, 0), 0)
        self.assertIs(type(first_apart(one, 0, other, 0)), int)
        slow, stops = alone((copy(0, 12, chain(8)),)), alone((copy(0, 12, chain(7)),))
        self.assertEqual(first_apart(slow, 0, stops, 0), 84)
        self.assertEqual(first_apart(stops, 0, slow, 0), 84)
        self.assertEqual(first_apart(slow, 0, alone((own(8),)), 0), 0)
        self.assertIsNone(first_apart(alone((own(1, 2),)), 0, alone((own(1, 2, 1, 2),)), 0))
        self.assertIsNone(first_apart(alone((own(0, 1, 2, 3, 4),)), 0, alone((copy(0, 1, circle(5)),), before=4), 0))

    def test_rows_that_do_alike_as_long_as_they_can(self):
        # Rounds of 3 and 5 can do alike for 6 beats, and part at the seventh.
        self.assertEqual(first_apart(alone((own(0, 1, 0),)), 0, alone((own(0, 1, 0, 0, 1),)), 0), 6)
        self.assertEqual(first_apart(alone((own(0, 1, 0, 0, 1),)), 0, alone((own(0, 1, 0),)), 0), 6)
        # Of 2 and 5, of 5 and 6, of 4 and 5.
        self.assertEqual(first_apart(alone((own(0, 1),)), 0, alone((own(0, 1, 0, 1, 0),)), 0), 5)
        one, other = (0, 0, 0, 0, 1), (0, 0, 0, 0, 1, 0)
        self.assertEqual(first_apart(alone((own(*one),)), 0, alone((own(*other),)), 0), 9)
        self.assertEqual(first_apart(alone((own(0, 0, 0, 1),)), 0, alone((own(0, 0, 0, 1, 0),)), 0), 7)

    def test_late_in_a_long_round(self):
        # Alone at rest 59 by 60 another row is gone by.
        at_last = (own(0, every=12, at=10), own(1, 1, 1, 1, 2, every=12, at=11), own(0))
        alike = (own(0, every=12, at=10), own(1, every=12, at=11), own(0))
        self.assertEqual(first_apart(alone(at_last), 0, alone(alike), 0), 59)
        late = alone((copy(0, 12, chain(8)),), at_last, (copy(1, 12, STAYS),), (copy(2, 12, STAYS),))
        other = alone((copy(0, 12, chain(8)),), alike, (copy(1, 12, STAYS),), (copy(2, 12, STAYS),))
        self.assertEqual([first_apart(late, hand, other, hand) for hand in range(4)], [None, 59, 71, 83])

    def test_later_than_both_rounds(self):
        # One does 0 for 85 beats, then 1 for ever; the other goes round at once.
        web = alone((copy(0, 12, chain(8)),), (copy(0, 1, (0, 0, 0, 0, 0, 0, 0, 0, 1)),))
        still = alone((own(0),))
        self.assertEqual(first_apart(web, 1, still, 0), 85)
        self.assertEqual(first_apart(still, 0, web, 1), 85)

    def test_hands_of_other_places(self):
        web = alone((own(1, 2),), (own(2, 1),), (copy(0, 1, STAYS),), before=2)
        self.assertIsNone(first_apart(web, 1, web, 2))
        self.assertIsNone(first_apart(web, 2, web, 1))
        self.assertEqual(first_apart(web, 0, web, 1), 0)

    def test_unlike_manies(self):
        one = (3, (0,), ((own(0, 1, 2),),))
        other = (9, (2,), ((copy(0, 1, (1, 2, 0, 3, 4, 5, 6, 7, 8)),),))
        self.assertIsNone(first_apart(one, 0, other, 0))
        self.assertEqual(first_apart(one, 0, (4, (0,), ((own(0, 1, 2, 0, 1, 3),),)), 0), 5)
        self.assertIsNone(first_apart(ONE_DOING, 0, alone((own(0),)), 0))

    def test_against_plain_rows(self):
        some = [web for web in in_time(40, seed=41) if web != JUST_IN_TIME]
        rows = [rows_on(web, 12000) for web in some]
        for k in range(len(some) - 1):
            for hand in range(len(some[k][2])):
                for its in range(len(some[k + 1][2])):
                    plain = plainly_apart(rows[k][hand], rows[k + 1][its])
                    self.assertEqual(first_apart(some[k], hand, some[k + 1], its), plain)

    def test_the_hand_is_of_its_own_web(self):
        one = alone((own(1),), (own(2),))
        other = alone((own(3),), (own(4),), (own(2),))
        self.assertIsNone(first_apart(one, 1, other, 2))
        self.assertIsNone(first_apart(other, 2, one, 1))

    def test_too_long(self):
        soon = alone((own(8),))
        for web in TOO_LONG:
            for one, other in ((web, soon), (soon, web), (web, web)):
                with self.assertRaises(TooLong) as refused:
                    first_apart(one, 0, other, 0)
                self.assertIs(type(refused.exception), TooLong)
        self.assertNotEqual(doing_at(soon, 0, 0), doing_at(APART, 0, 0))


class FirstParted(unittest.TestCase):
    def test_alike_webs(self):
        for web in in_time(12, seed=42):
            self.assertIsNone(first_parted(web, web))
        one = alone((own(1, 2),), (copy(0, 1, STAYS),), before=2)
        self.assertIsNone(first_parted(one, (4, (0, 0), ((own(1, 2, 1, 2),), (own(2, 1),)))))

    def test_the_least_beat_and_then_the_least_hand(self):
        web = alone((own(0),), (own(0),), (own(0),))
        late, soon = (own(0, 0, 0, 1),), (own(0, 0, 1),)
        for hands, parted in (
            ((late, soon, soon), (2, 1)), ((soon, late, soon), (2, 0)), ((late, late, soon), (2, 2)),
            (((own(0),), late, late), (3, 1)), (((own(0),), late, soon), (2, 2)),
            (((own(0),), (own(0),), (own(5),)), (0, 2)), (((own(0),), (own(0, 0),), (own(0),)), None),
        ):
            self.assertEqual(first_parted(web, alone(*hands)), parted)
            self.assertEqual(first_parted(alone(*hands), web), parted)

    def test_against_plain_rows(self):
        chance = Random(43)
        some = [web for web in in_time(30, seed=44) if web != JUST_IN_TIME]
        for web in some:
            # The same web but for one rule's turn or row.
            hands = list(web[2])
            hand = chance.randrange(len(hands))
            every, at, what = hands[hand][-1]
            what = ("own", (0,)) if what[0] == "copy" else ("copy", hand, 1, tuple(range(web[0])))
            hands[hand] = (*hands[hand][:-1], (every, at, what))
            other = (web[0], web[1], tuple(hands))
            rows, its_rows = rows_on(web, 12000), rows_on(other, 12000)
            if not is_web(other) or its_rows is None:
                continue
            apart = [(plainly_apart(row, its), hand) for hand, (row, its) in enumerate(zip(rows, its_rows))]
            plain = min((pair for pair in apart if pair[0] is not None), default=None)
            told = first_parted(web, other)
            self.assertEqual(told, plain)
            self.assertTrue(told is None or type(told) is tuple and all_whole(told))

    def test_unlike_many_hands(self):
        one, two = alone((own(1),)), alone((own(1),), (own(1),))
        for pair in ((one, two), (two, one), (APART, two), (two, APART), (WIDE_CIRCLE, APART)):
            with self.assertRaises(NotLike) as refused:
                first_parted(*pair)
            self.assertIs(type(refused.exception), NotLike)
        self.assertTrue(issubclass(NotLike, HandError))

    def test_too_long(self):
        three = alone((own(5),), (own(5),), (own(5),))
        for pair in ((APART, three), (three, APART), (APART, APART)):
            with self.assertRaises(TooLong):
                first_parted(*pair)


class Renamed(unittest.TestCase):
    WEB = (3, (0, 1), (
        (own(0, 1, 1, every=2, at=1), copy(1, 5, (0, 0, 2))),
        (copy(0, 2, (1, 2, 0), every=3), copy(1, 1, (2, 2, 1))),
    ))

    def test_as_told_by_hand(self):
        self.assertEqual(renamed(self.WEB, [0, 1], (0, 1, 2)), self.WEB)
        # The hands alone.
        self.assertEqual(renamed(self.WEB, [1, 0], (0, 1, 2)), (3, (1, 0), (
            (copy(1, 2, (1, 2, 0), every=3), copy(0, 1, (2, 2, 1))),
            (own(0, 1, 1, every=2, at=1), copy(0, 5, (0, 0, 2))),
        )))
        # The doings alone: 0 is called 2, 1 is called 0, 2 is called 1.
        self.assertEqual(renamed(self.WEB, [0, 1], (2, 0, 1)), (3, (2, 0), (
            (own(2, 0, 0, every=2, at=1), copy(1, 5, (2, 1, 2))),
            (copy(0, 2, (1, 2, 0), every=3), copy(1, 1, (1, 0, 1))),
        )))

    def test_the_orders_kth_is_the_kth_new_hand(self):
        web = alone((own(0),), (copy(0, 1, STAYS),), (copy(1, 2, STAYS),))
        self.assertEqual(renamed(web, [2, 0, 1], STAYS)[2], (
            (copy(2, 2, STAYS),), (own(0),), (copy(1, 1, STAYS),),
        ))

    def test_it_does_what_the_old_one_does(self):
        chance = Random(45)
        for web in (*webs(60, seed=46), *KINDS):
            order = chance.sample(range(len(web[2])), len(web[2]))
            turn = tuple(chance.sample(range(web[0]), web[0]))
            new = renamed(web, order, turn)
            self.assertIs(is_web(new), True)
            rows, new_rows = going(web, 150), going(new, 150)
            for k, hand in enumerate(order):
                self.assertEqual(new_rows[k], [turn[doing] for doing in rows[hand]])
            self.assertEqual(new[1], tuple(turn[web[1][hand]] for hand in order))
            # Rules stay in their order, with their beats; copies of as long ago.
            for k, hand in enumerate(order):
                for (every, at, what), (new_every, new_at, new_what) in zip(web[2][hand], new[2][k], strict=True):
                    self.assertEqual((every, at, what[0]), (new_every, new_at, new_what[0]))
                    if what[0] == "copy":
                        self.assertEqual((order[new_what[1]], new_what[2]), (what[1], what[2]))
                        self.assertEqual([turn[what[3][d]] for d in range(web[0])], [
                            new_what[3][turn[d]] for d in range(web[0])
                        ])
                    else:
                        self.assertEqual(new_what[1], tuple(turn[doing] for doing in what[1]))

    def test_far(self):
        order, turn = [3, 1, 5, 0, 2, 4], (4, 3, 2, 1, 0, 8, 7, 6, 5)
        for web in (WIDE, WIDE_CIRCLE):
            new = renamed(web, order, turn)
            for beat in (FAR, FAR - 1, 10 ** 17 + 3):
                scene = scene_at(web, beat)
                self.assertEqual(scene_at(new, beat), tuple(turn[scene[hand]] for hand in order))

    def test_and_back_again(self):
        chance = Random(47)
        for web in webs(30, seed=48):
            order = chance.sample(range(len(web[2])), len(web[2]))
            turn = tuple(chance.sample(range(web[0]), web[0]))
            new = renamed(web, order, turn)
            back = [order.index(hand) for hand in range(len(order))]
            self.assertEqual(renamed(new, back, tuple(turn.index(doing) for doing in range(web[0]))), web)

    def assert_not_like(self, order, turn):
        with self.assertRaises(NotLike) as refused:
            renamed(self.WEB, order, turn)
        self.assertIs(type(refused.exception), NotLike)

    def test_what_is_no_order(self):
        for order in (
            [], [0], [1], [0, 0], [1, 1], [0, 2], [1, 2], [-1, 0], [0, 1, 2], [0, 1, 1], (0, 1), (1, 0), range(2),
            {0: 0, 1: 1}, {0, 1}, "01", b"\x00\x01", None, 2, [False, True], [0, True], [False, 1], [0, "1"],
            [0, None], [0, [1]], [[0], [1]], [0, (1,)], [Odd(), Odd()], [0, Odd()], [Sore(), 1], Odd(), Sore(),
        ):
            self.assert_not_like(order, (0, 1, 2))

    def test_what_is_no_one_to_one_turn(self):
        for turn in (
            (), (0, 1), (0, 1, 2, 3), (0, 1, 1), (2, 2, 2), (0, 1, 3), (-1, 0, 1), [0, 1, 2], range(3), "012",
            b"\x00\x01\x02", None, 3, (False, True, 2), (0, True, 2), (0, 1, "2"), (0, 1, None), (0, 1, (2,)),
            (Odd(), Odd(), Odd()), (0, 1, Odd()), (Sore(), 1, 2), Odd(), Sore(), {0: 0, 1: 1, 2: 2},
        ):
            self.assert_not_like([1, 0], turn)

    def test_anything(self):
        for thing in anything():
            self.assert_not_like(thing, thing)
            self.assert_not_like([0, 1], thing)
            self.assert_not_like([0, 1], (thing, 1, 2) if type(thing) is not int or thing != 0 else None)
            if type(thing) is not list or thing != [0, 1]:
                self.assert_not_like(thing, (0, 1, 2))
            self.assert_not_like([thing, thing], (0, 1, 2))

    def test_what_is_handed_in_stays(self):
        order = [1, 0]
        told = renamed(self.WEB, order, (1, 0, 2))
        self.assertEqual(order, [1, 0])
        order.reverse()
        self.assertEqual(renamed(self.WEB, [1, 0], (1, 0, 2)), told)


class OrderOf(unittest.TestCase):
    def test_the_order_by_which_it_was_renamed(self):
        web = alone((own(0),), (own(1),), (own(2),), (copy(0, 1, (3, 1, 2, 0, 4, 5, 6, 7, 8)),))
        for order in permutations(range(4)):
            told = order_of(web, renamed(web, list(order), STAYS))
            self.assertEqual(told, list(order))
            self.assertIs(type(told), list)
            self.assertTrue(all_whole(told))

    def test_the_least_order(self):
        web = alone((own(0, 1),), (own(0, 1, 0, 1),), (copy(0, 1, circle(2)),), (own(1, 0),), (own(5),))
        self.assertEqual(first_apart(web, 0, web, 2), 0)
        self.assertEqual(first_apart(web, 2, web, 3), 1)
        self.assertEqual(order_of(web, web), [0, 1, 2, 3, 4])
        self.assertEqual(order_of(web, renamed(web, [4, 1, 3, 0, 2], STAYS)), [4, 0, 3, 1, 2])
        two = alone((own(5),), (own(1),), (own(5),), (own(1),))
        self.assertEqual(order_of(two, two), [0, 1, 2, 3])
        self.assertEqual(order_of(two, renamed(two, [3, 2, 1, 0], STAYS)), [1, 0, 3, 2])
        self.assertEqual(order_of(two, renamed(two, [2, 0, 3, 1], STAYS)), [0, 2, 1, 3])
        same = alone(*[(own(1),)] * 6)
        self.assertEqual(order_of(same, same), [0, 1, 2, 3, 4, 5])

    def test_rows_count_and_not_rules(self):
        one = alone((own(0, 1),), (own(2),))
        other = (9, (4, 1), ((own(2, 2),), (copy(1, 2, STAYS, every=2, at=1), own(0))))
        self.assertEqual(going(other, 4), [[2, 2, 2, 2], [0, 1, 0, 1]])
        self.assertEqual(order_of(one, other), [1, 0])
        self.assertEqual(order_of(other, one), [1, 0])

    def test_none(self):
        web = alone((own(0),), (own(1),))
        for other in (
            alone((own(0),), (own(0),)), alone((own(1),), (own(1),)), alone((own(0),), (own(2),)),
            alone((own(0),), (own(1, 1, 1, 1, 1, 0),)), alone((own(1, 0),), (own(0, 1),)),
        ):
            self.assertIsNone(order_of(web, other))
            self.assertIsNone(order_of(other, web))

    def test_none_of_unlike_many_hands(self):
        one, two = alone((own(1),)), alone((own(1),), (own(1),))
        for pair in ((one, two), (two, one), (APART, two), (two, APART), (WIDE_CIRCLE, APART)):
            self.assertIsNone(order_of(*pair))

    def test_too_long(self):
        three = alone((own(5),), (own(5),), (own(5),))
        for pair in ((APART, three), (three, APART), (APART, APART)):
            with self.assertRaises(TooLong) as refused:
                order_of(*pair)
            self.assertIs(type(refused.exception), TooLong)

    def test_by_all_orders(self):
        chance = Random(49)
        rows_of = (own(0), own(1), own(0, 1), copy(0, 1, circle(3)), copy(1, 2, circle(2)))
        for _ in range(60):
            count = chance.randint(1, 4)
            web = alone(*[(chance.choice(rows_of[:3 if count == 1 else 5]),) for _ in range(count)])
            order = chance.sample(range(count), count)
            other = renamed(web, order, STAYS)
            if chance.random() < 0.4:
                other = (other[0], other[1], (*other[2][:-1], (chance.choice(rows_of[:3]),)))
            rows, its_rows = going(web, 300), going(other, 300)
            plain = next((
                list(some) for some in permutations(range(count))
                if [rows[hand] for hand in some] == its_rows
            ), None)
            self.assertEqual(order_of(web, other), plain)

    def test_the_list_is_the_askers_own(self):
        web = alone((own(1),), (own(2),))
        one, other = order_of(web, web), order_of(web, web)
        self.assertIsNot(one, other)
        one.append(9)
        self.assertEqual(order_of(web, web), other)


class SideBySide(unittest.TestCase):
    def test_as_told_by_hand(self):
        one = (3, (0, 1), ((own(0, 1, every=2), copy(1, 5, (1, 2, 0))), (copy(0, 1, (0, 0, 2)),)))
        other = (3, (2, 2), ((copy(0, 3, (1, 0, 2)),), (copy(0, 2, (2, 1, 0)), own(1))))
        self.assertEqual(side_by_side(one, other), (3, (0, 1, 2, 2), (
            (own(0, 1, every=2), copy(1, 5, (1, 2, 0))), (copy(0, 1, (0, 0, 2)),),
            (copy(2, 3, (1, 0, 2)),), (copy(2, 2, (2, 1, 0)), own(1)),
        )))
        self.assertEqual(side_by_side(other, one), (3, (2, 2, 0, 1), (
            (copy(0, 3, (1, 0, 2)),), (copy(0, 2, (2, 1, 0)), own(1)),
            (own(0, 1, every=2), copy(3, 5, (1, 2, 0))), (copy(2, 1, (0, 0, 2)),),
        )))

    def test_each_hand_does_what_it_does_alone(self):
        some = webs(400, seed=50)
        pairs = 0
        for one in some[:40]:
            for other in some[40:]:
                count = len(one[2]) + len(other[2])
                if one[0] != other[0] or count > 6:
                    continue
                try:
                    told = side_by_side(one, other)
                except NotLike:
                    self.assertGreater(clock(one) * clock(other), 240)
                    continue
                pairs += 1
                self.assertIs(is_web(told), True)
                self.assertEqual(told[1], one[1] + other[1])
                self.assertEqual(going(told, 60), going(one, 60) + going(other, 60))
        self.assertGreater(pairs, 50)

    def test_far(self):
        one = alone((copy(0, 7, circle(9)),), (copy(0, 11, circle(4)),))
        other = alone((copy(1, 5, circle(5)),), (copy(0, 2, chain(8)),), before=3)
        for beat in (FAR, FAR - 1, 10 ** 17 + 3):
            self.assertEqual(scene_at(side_by_side(one, other), beat), scene_at(one, beat) + scene_at(other, beat))

    def assert_not_like(self, one, other):
        for pair in ((one, other), (other, one)):
            with self.assertRaises(NotLike) as refused:
                side_by_side(*pair)
            self.assertIs(type(refused.exception), NotLike)

    def test_unlike_many_doings(self):
        for many in (1, 2, 4, 9):
            self.assert_not_like((3, (0,), ((own(0),),)), (many, (0,), ((own(0),),)))

    def test_at_most_six_hands(self):
        hands = [(own(hand),) for hand in range(7)]
        for k in range(1, 6):
            told = side_by_side(alone(*hands[:k]), alone(*hands[k:6]))
            self.assertEqual(told, alone(*hands[:6]))
            self.assert_not_like(alone(*hands[:k]), alone(*hands[k:7]))
        self.assert_not_like(alone(*hands[:6]), alone(*hands[:6]))

    def test_a_clock_of_at_most_240(self):
        def of_clock(*beats):
            rules = [own(*range(length), every=every) for every, length in beats]
            return alone((*rules, own(0)))

        for one, other, both in (
            (of_clock((12, 4)), of_clock((10, 1)), 240), (of_clock((12, 4), (5, 1)), of_clock((12, 4), (10, 6)), 240),
            (of_clock((8, 2)), of_clock((3, 5)), 240), (of_clock((7, 1)), of_clock((11, 3)), 231),
        ):
            told = side_by_side(one, other)
            self.assertEqual(clock(told), both)
            self.assertIs(is_web(told), True)
        for one, other in (
            (of_clock((12, 4), (5, 1)), of_clock((7, 1))), (of_clock((4, 1)), of_clock((7, 1), (9, 1))),
            (of_clock((12, 4)), of_clock((9, 5))), (of_clock((11, 1)), of_clock((12, 2))),
        ):
            self.assertTrue(is_web(one) and is_web(other))
            self.assert_not_like(one, other)

    def test_tuples_are_told(self):
        told = side_by_side(MIXED, MIXED)
        self.assertEqual([type(told), type(told[1]), type(told[2])], [tuple] * 3)
        self.assertEqual({type(rules) for rules in told[2]}, {tuple})
        self.assertIs(is_web(told), True)


if __name__ == "__main__":
    unittest.main()
