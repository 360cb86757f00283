"""Promises [4] and [5]: doings and turns."""

import unittest
from itertools import product

from agohands.turns import after, is_turn, often, power, settles
from things import Odd, Sore, anything, near_misses


def all_turns(most):
    for many in range(1, most + 1):
        yield from product(range(many), repeat=many)


def done(turn, k, doing):
    """What comes of a doing by the turn, k times, one by one."""
    for _ in range(k):
        doing = turn[doing]
    return doing


def done_all(turn, k):
    return tuple(done(turn, k, doing) for doing in range(len(turn)))


class IsTurn(unittest.TestCase):
    def assert_turn(self, many, thing):
        self.assertIs(is_turn(many, thing), True, (many, thing))

    def assert_none(self, many, thing):
        self.assertIs(is_turn(many, thing), False)

    def test_turns_of_one_to_nine_doings(self):
        for many in range(1, 10):
            self.assert_turn(many, tuple(range(many)))
            self.assert_turn(many, tuple(reversed(range(many))))

    def test_turns_that_do_not_take_each_doing_once(self):
        for many in range(1, 10):
            for doing in range(many):
                self.assert_turn(many, (doing,) * many)
        for turn in all_turns(4):
            self.assert_turn(len(turn), turn)

    def test_a_doing_beyond_or_below_nought(self):
        for many in range(1, 10):
            turn = tuple(range(many))
            for k in range(many):
                for wrong in (many, many + 1, -1, -many, 10 ** 18, -10 ** 18):
                    self.assert_none(many, turn[:k] + (wrong,) + turn[k + 1:])

    def test_other_things_among_the_doings(self):
        for many in range(1, 10):
            turn = (0, 1) + tuple(range(2, many)) if many > 1 else (0,)
            for k in range(many):
                for wrong in (True, False, None, "0", "1", "", (0,), [0], {}, b"\x00", Odd(), Sore()):
                    self.assert_none(many, turn[:k] + (wrong,) + turn[k + 1:])

    def test_a_doing_more_or_fewer_than_many(self):
        for many in range(1, 10):
            self.assert_none(many, (0,) * (many - 1))
            self.assert_none(many, (0,) * (many + 1))
        self.assert_none(3, ())
        self.assert_none(2, (0,) * 5000)

    def test_a_list_in_the_place_of_the_tuple(self):
        for many in range(1, 10):
            self.assert_none(many, list(range(many)))

    def test_near_misses(self):
        for turn in ((0,), (1, 0), (2, 2, 0)):
            for thing in near_misses(turn):
                self.assert_none(len(turn), thing)

    def test_anything(self):
        for thing in anything():
            for many in (2, 3, 5):
                self.assert_none(many, thing)
            told = is_turn(1, thing)
            self.assertIs(told, type(thing) is tuple and len(thing) == 1 and type(thing[0]) is int)

    def test_no_turn_is_of_fewer_than_one_or_more_than_nine_doings(self):
        self.assert_none(0, ())
        self.assert_none(-1, ())
        self.assert_none(10, tuple(range(10)))

    def test_many_is_a_whole_number(self):
        self.assert_none(True, (0,))
        self.assert_none(None, (0,))
        self.assert_none("1", (0,))


class After(unittest.TestCase):
    def test_the_order(self):
        self.assertEqual(after((1, 2, 0), (0, 0, 2)), (0, 2, 0))
        self.assertEqual(after((0, 0, 2), (1, 2, 0)), (1, 1, 0))

    def test_all_pairs_of_few_doings(self):
        for many in (1, 2, 3):
            turns = list(product(range(many), repeat=many))
            for one in turns:
                for other in turns:
                    told = after(one, other)
                    self.assertIs(type(told), tuple)
                    self.assertEqual(len(told), many)
                    for doing in range(many):
                        self.assertEqual(told[doing], other[one[doing]])

    def test_nine_doings(self):
        one = (1, 2, 3, 4, 5, 6, 7, 8, 8)
        other = (8, 7, 6, 5, 4, 3, 2, 1, 0)
        self.assertEqual(after(one, other), (7, 6, 5, 4, 3, 2, 1, 0, 0))
        self.assertEqual(after(other, one), (8, 8, 7, 6, 5, 4, 3, 2, 1))

    def test_what_is_told_is_a_turn(self):
        self.assertIs(is_turn(3, after((2, 2, 1), (0, 2, 2))), True)


class Power(unittest.TestCase):
    def test_no_times_each_stays(self):
        for many in range(1, 10):
            self.assertEqual(power((0,) * many, 0), tuple(range(many)))

    def test_once_is_the_turn(self):
        for turn in all_turns(3):
            self.assertEqual(power(turn, 1), turn)

    def test_some_times(self):
        for turn in all_turns(4):
            for k in range(9):
                self.assertEqual(power(turn, k), done_all(turn, k))
        turn = (1, 2, 3, 4, 0, 6, 7, 8, 5)
        for k in range(70):
            told = power(turn, k)
            self.assertIs(type(told), tuple)
            self.assertEqual(told, done_all(turn, k))

    def test_very_many_times(self):
        # A circle of five doings and one of four.
        turn = (1, 2, 3, 4, 0, 6, 7, 8, 5)
        for k in (10 ** 18, 10 ** 18 - 1, 10 ** 18 - 7, 2 ** 59, 2 ** 59 - 1):
            self.assertEqual(power(turn, k), done_all(turn, k % 20))
        self.assertEqual(power((1, 2, 3, 4, 5, 6, 7, 8, 8), 10 ** 18), (8,) * 9)
        self.assertEqual(power((1, 2, 0), 10 ** 18), (1, 2, 0))
        self.assertEqual(power((1, 0), 10 ** 18 - 1), (1, 0))
        self.assertEqual(power((0,), 10 ** 18), (0,))


class Often(unittest.TestCase):
    def test_as_the_turn_done_so_many_times(self):
        turns = [*all_turns(3), (1, 2, 3, 4, 0, 6, 7, 8, 5), (1, 2, 3, 4, 5, 6, 7, 8, 8), (3, 0, 1, 4, 5, 3, 2)]
        for turn in turns:
            for k in (*range(25), 10 ** 18, 10 ** 18 - 1, 2 ** 59 - 1):
                done = power(turn, k)
                for doing in range(len(turn)):
                    self.assertEqual(often(turn, doing, k), done[doing])


class Settles(unittest.TestCase):
    def plainly(self, turn):
        """The least round, then the least first, tried one by one."""
        powers = [done_all(turn, k) for k in range(60)]
        for again in range(1, 30):
            for first in range(30):
                if powers[first] == powers[first + again]:
                    return first, again
        return None

    def test_all_turns_of_few_doings(self):
        for turn in all_turns(4):
            self.assertEqual(settles(turn), self.plainly(turn), turn)

    def test_turns_that_stay(self):
        for many in range(1, 10):
            self.assertEqual(settles(tuple(range(many))), (0, 1))

    def test_turns_that_settle_after_some_steps(self):
        self.assertEqual(settles((0, 0)), (1, 1))
        self.assertEqual(settles((1, 2, 3, 3)), (3, 1))
        self.assertEqual(settles((1, 2, 3, 4, 5, 6, 7, 8, 8)), (8, 1))
        self.assertEqual(settles((1, 2, 3, 4, 5, 6, 7, 8, 7)), (7, 2))

    def test_circles_of_unlike_lengths(self):
        self.assertEqual(settles((1, 0, 3, 4, 2)), (0, 6))
        self.assertEqual(settles((1, 2, 3, 4, 0, 6, 7, 8, 5)), (0, 20))
        self.assertEqual(settles((1, 0, 3, 4, 5, 2, 7, 8, 6)), (0, 12))

    def test_circles_of_unlike_lengths_after_some_steps(self):
        self.assertEqual(settles((1, 0, 3, 4, 2, 2, 5, 6)), (3, 6))
        self.assertEqual(settles((1, 2, 3, 4, 5, 3, 7, 6, 0)), (4, 6))

    def test_turns_of_many_doings_one_by_one(self):
        for turn in ((3, 3, 5, 8, 1, 2, 2, 0, 7), (4, 0, 6, 6, 1, 3, 7, 2, 2), (8, 7, 6, 5, 4, 3, 2, 1, 0)):
            self.assertEqual(settles(turn), self.plainly(turn))

    def test_a_tuple_of_whole_numbers_is_told(self):
        told = settles((1, 0, 0))
        self.assertIs(type(told), tuple)
        self.assertEqual([type(part) for part in told], [int, int])


if __name__ == "__main__":
    unittest.main()
