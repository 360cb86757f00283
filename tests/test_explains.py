"""Of promises [27] to [29]: which copying explains what was seen."""

import unittest
from itertools import combinations
from random import Random

from agohands.explains import MOST_AGO, explaining, fits, is_seen, left_out
from agohands.rows import plain_rows
from agohands.webs import is_web
from plain import alone, circle, copy, going, own, webs
from things import anything, near_misses

SEEN = (3, (0, 2), ((1, 2, 0, 1, 2), (2, 1, 2, 0, 1)))


def copied(seen, hand, ago):
    """What the copy copies at each seen beat."""
    _, before, rows = seen
    return [rows[hand][beat - ago] if beat >= ago else before[hand] for beat in range(len(rows[0]))]


def plain_turn(seen, hand, other, ago):
    """The turn of the fit, by looking at each two seen beats, or None."""
    row, by = seen[2][hand], copied(seen, other, ago)
    for one, its in combinations(range(len(row)), 2):
        if by[one] == by[its] and row[one] != row[its]:
            return None
    return tuple(dict(zip(by, row)).get(doing) for doing in range(seen[0]))


def plain_fits(seen, hand, most):
    told = []
    for other in range(len(seen[2])):
        for ago in range(1, most + 1):
            turn = plain_turn(seen, hand, other, ago)
            if turn is not None:
                told.append((other, ago, turn))
    return told


def seen_of(web, beats):
    return web[0], web[1], tuple(tuple(row) for row in going(web, beats))


def by_chance(count, seed, most_beats=40, most_many=9):
    """What was seen of hands that do as it happens."""
    chance = Random(seed)
    for _ in range(count):
        many, hands, beats = chance.randint(1, most_many), chance.randint(1, 6), chance.randint(1, most_beats)
        rows = tuple(tuple(chance.randrange(many) for _ in range(beats)) for _ in range(hands))
        yield many, tuple(chance.randrange(many) for _ in range(hands)), rows


def seen_webs(seed):
    """What was seen of webs, some of copies alone, some of many rules."""
    chance = Random(seed)
    for web in webs(60, seed=seed):
        yield seen_of(web, chance.choice((1, 2, 5, 12, 13, 40)))
        single = (*web[:2], tuple(hand[-1:] for hand in web[2]))
        yield seen_of(single, chance.choice((3, 14, 60)))


class IsSeen(unittest.TestCase):
    def test_of_one_to_six_hands(self):
        for count in range(8):
            for beats in (1, 2, 299, 300):
                seen = (2, (0,) * count, ((1,) * beats,) * count)
                self.assertIs(is_seen(seen), 1 <= count <= 6)

    def test_of_one_to_three_hundred_beats(self):
        for beats in (0, 1, 2, 299, 300, 301, 5000):
            for count in (1, 3, 6):
                seen = (2, (0,) * count, ((1,) * beats,) * count)
                self.assertIs(is_seen(seen), 1 <= beats <= 300)

    def test_of_one_length(self):
        for lengths in ((1, 2), (2, 1), (3, 3, 2), (300, 299), (300, 301), (0, 1), (1, 0)):
            rows = tuple((0,) * length for length in lengths)
            self.assertIs(is_seen((2, (0,) * len(rows), rows)), False)

    def test_of_as_many_before(self):
        for before in ((), (0,), (0, 1, 1), (0, 1, 1, 0)):
            self.assertIs(is_seen((2, before, ((0,), (1,)))), False)
        self.assertIs(is_seen((2, (1, 1), ((0,), (1,)))), True)

    def test_of_doings(self):
        for many in range(-1, 12):
            seen = (many, (0,), ((0, 0),))
            self.assertIs(is_seen(seen), 1 <= many <= 9)
            for doing in (-1, 0, many - 1, many, 10 ** 18):
                right = 1 <= many <= 9 and 0 <= doing < many
                self.assertIs(is_seen((many, (doing,), ((0,),))), right)
                self.assertIs(is_seen((many, (0,), ((0, doing),))), right)

    def test_of_anything(self):
        many, before, rows = SEEN
        for thing in anything():
            for seen in (thing, (many, thing, rows), (many, before, thing)):
                self.assertIs(is_seen(seen), False)
            if type(thing) is not int:
                self.assertIs(is_seen((thing, before, rows)), False)
            for seen in ((many, before, (rows[0], thing)), (many, before, (thing, rows[1]))):
                self.assertIs(is_seen(seen), False)
        for thing in (SEEN[:2], (*SEEN, 0), list(SEEN), (3, [0, 2], rows), (3, before, list(rows)), (3, before, ([1], (2,)))):
            self.assertIs(is_seen(thing), False)

    def test_near_misses(self):
        self.assertIs(is_seen(SEEN), True)
        for thing in near_misses(SEEN):
            self.assertIs(is_seen(thing), False)

    def test_what_webs_do(self):
        for seen in seen_webs(1):
            self.assertIs(is_seen(seen), True)


class Fits(unittest.TestCase):
    def test_as_told_by_hand(self):
        self.assertEqual(fits(SEEN, 0, most=1), [(0, 1, (1, 2, 0))])
        self.assertEqual(fits(SEEN, 1, most=1), [])
        seen = (4, (0,), ((1, 1, 3),))
        self.assertEqual(fits(seen, 0, most=3), [(0, 2, (1, 3, None, None))])
        seen = (4, (3,), ((0, 1, 2),))
        self.assertEqual(fits(seen, 0, most=4), [(0, 1, (1, 2, None, 0))])
        self.assertEqual(fits((4, (3,), ((2,),)), 0, most=2), [(0, 1, (None, None, None, 2)), (0, 2, (None, None, None, 2))])

    def test_by_looking_at_all_seen_beats(self):
        for seen in (*seen_webs(2), *by_chance(60, 3), *by_chance(60, 4, most_beats=6), *by_chance(30, 5, most_many=2)):
            for hand in range(len(seen[2])):
                for most in (1, 2, 7, 12):
                    self.assertEqual(fits(seen, hand, most=most), plain_fits(seen, hand, most))
                self.assertEqual(fits(seen, hand), plain_fits(seen, hand, 12))

    def test_most_left_out(self):
        self.assertIs(type(MOST_AGO), int)
        self.assertEqual(MOST_AGO, 12)
        seen = seen_of(alone((copy(0, 12, circle(9)),)), 30)
        self.assertEqual(fits(seen, 0)[-1][:2], (0, 12))
        self.assertEqual(fits(seen, 0, most=12), fits(seen, 0))
        self.assertEqual(fits(seen, 0, most=11), fits(seen, 0)[:-1])
        with self.assertRaises(TypeError):
            fits(seen, 0, 3)

    def test_a_copy_of_itself_and_of_another(self):
        for ago in range(1, 13):
            turn = circle(5)
            web = alone((own(0, 3, 1, 4, 4, 2),), (copy(0, ago, turn),), (copy(2, ago, turn),))
            seen = seen_of(web, 100)
            self.assertIn((0, ago), [fit[:2] for fit in fits(seen, 1)])
            self.assertIn((2, ago), [fit[:2] for fit in fits(seen, 2)])
            for other, its_ago, told in fits(seen, 1):
                if (other, its_ago) == (0, ago):
                    self.assertEqual(told, (*turn[:5], None, None, None, None))

    def test_before_counts(self):
        for before, told in ((0, [(0, 1, (0, None))]), (1, [(0, 1, (0, 0))])):
            self.assertEqual(fits((2, (before,), ((0, 0, 0),)), 0, most=1), told)
        self.assertEqual(fits((2, (0,), ((0, 1),)), 0, most=1), [])
        self.assertEqual(fits((2, (1,), ((0, 1),)), 0, most=1), [(0, 1, (1, 0))])
        # Of twelve beats ago nothing but before is seen.
        self.assertEqual(fits((2, (1,), ((0,) * 12,)), 0)[-1], (0, 12, (None, 0)))
        self.assertEqual(fits((2, (1,), ((0,) * 13,)), 0)[-1], (0, 12, (0, 0)))

    def test_rising_by_hand_and_ago(self):
        for seen in seen_webs(6):
            told = [fit[:2] for fit in fits(seen, 0)]
            self.assertEqual(told, sorted(set(told)))

    def test_what_is_told(self):
        for seen in seen_webs(7):
            told = fits(seen, 0)
            self.assertIs(type(told), list)
            for fit in told:
                self.assertEqual([type(part) for part in fit], [int, int, tuple])
                self.assertEqual(len(fit[2]), seen[0])
                self.assertTrue(all(made is None or type(made) is int for made in fit[2]))
            told.append(None)
            self.assertEqual(fits(seen, 0), told[:-1])

    def test_the_longest(self):
        seen = seen_of((9, (1,) * 6, tuple((copy(hand, 12, circle(9)),) for hand in range(6))), 300)
        for hand in range(6):
            self.assertEqual(fits(seen, hand), plain_fits(seen, hand, 12))


class Explaining(unittest.TestCase):
    def test_as_told_by_hand(self):
        seen = (4, (3,), ((0, 1, 2),))
        self.assertEqual(explaining(seen), (4, (3,), (((1, 0, ("copy", 0, 1, (1, 2, 0, 0))),),)))
        self.assertIsNone(explaining((4, (0,), ((1, 1, 3),)), most=1))
        self.assertEqual(explaining((1, (0,), ((0,),))), (1, (0,), (((1, 0, ("copy", 0, 1, (0,))),),)))

    def test_each_hand_by_its_least_fit(self):
        explained = 0
        for seen in (*seen_webs(8), *by_chance(80, 9), *by_chance(60, 10, most_beats=5)):
            for most in (1, 2, 12):
                told = explaining(seen, most=most)
                least = [plain_fits(seen, hand, most)[:1] for hand in range(len(seen[2]))]
                if not all(least):
                    self.assertIsNone(told)
                    continue
                explained += 1
                hands = tuple(
                    ((1, 0, ("copy", other, ago, tuple(made or 0 for made in turn))),) for ((other, ago, turn),) in least
                )
                self.assertEqual(told, (seen[0], seen[1], hands))
            self.assertEqual(explaining(seen), explaining(seen, most=12))
        self.assertGreater(explained, 200)

    def test_what_it_does_is_what_was_seen(self):
        explained = 0
        for seen in (*seen_webs(11), *by_chance(80, 12), *by_chance(60, 13, most_beats=5)):
            told = explaining(seen)
            if told is not None:
                explained += 1
                self.assertIs(is_web(told), True)
                self.assertEqual(plain_rows(told, len(seen[2][0])), [list(row) for row in seen[2]])
        self.assertGreater(explained, 80)

    def test_none_where_one_hand_has_no_fit(self):
        rows = ((0, 1, 2, 0, 1, 2), (0, 0, 1, 0, 1, 1))
        self.assertIsNotNone(explaining((3, (2, 2), rows[:1] * 2), most=1))
        for order in (rows, rows[::-1]):
            self.assertIsNone(explaining((3, (2, 2), order), most=1))

    def test_most_is_handed_in_by_its_name(self):
        with self.assertRaises(TypeError):
            explaining(SEEN, 3)


class LeftOut(unittest.TestCase):
    def test_as_told_by_hand(self):
        # Behind 0 stood 0 twice and 1 once, behind 1 stood 0.
        seen = (2, (0,), ((0, 0, 1, 0),))
        self.assertEqual(left_out(seen, 0, most=1), {(0, 1): 1})
        self.assertEqual(left_out(seen, 0, most=2), {(0, 1): 1, (0, 2): 1})
        self.assertEqual(left_out((2, (1,), ((0,),)), 0, most=1), {(0, 1): 0})

    def test_the_least_number_of_beats(self):
        for seen in by_chance(40, 14, most_beats=8, most_many=3):
            for hand in range(len(seen[2])):
                told = left_out(seen, hand, most=3)
                for (other, ago), number in told.items():
                    self.assertEqual(number, self.by_trying(seen, hand, other, ago))

    def by_trying(self, seen, hand, other, ago):
        """The least number of beats left out, by trying all."""
        row, by = seen[2][hand], copied(seen, other, ago)
        beats = range(len(row))
        for number in beats:
            for out in combinations(beats, number):
                pairs = {(by[beat], row[beat]) for beat in beats if beat not in out}
                if len(pairs) == len({doing for doing, _ in pairs}):
                    return number
        raise AssertionError("one beat alone fits")

    def test_just_each_hand_and_ago(self):
        for seen in (*seen_webs(15), *by_chance(30, 16)):
            for most in (1, 5, 12):
                told = left_out(seen, 0, most=most)
                self.assertIs(type(told), dict)
                self.assertEqual(
                    list(told), [(other, ago) for other in range(len(seen[2])) for ago in range(1, most + 1)],
                )
                self.assertEqual({type(number) for number in told.values()}, {int})
            self.assertEqual(left_out(seen, 0), left_out(seen, 0, most=12))

    def test_zero_just_where_the_copy_fits(self):
        for seen in (*seen_webs(17), *by_chance(60, 18), *by_chance(60, 19, most_beats=5)):
            for hand in range(len(seen[2])):
                at_once = [place for place, number in left_out(seen, hand).items() if number == 0]
                self.assertEqual(at_once, [fit[:2] for fit in fits(seen, hand)])

    def test_the_longest(self):
        chance = Random(20)
        rows = tuple(tuple(chance.randrange(9) for _ in range(300)) for _ in range(6))
        seen = (9, (0,) * 6, rows)
        told = left_out(seen, 5)
        self.assertEqual(len(told), 72)
        for (other, ago), number in told.items():
            by = copied(seen, other, ago)
            stays = 0
            for doing in range(9):
                made = [its for one, its in zip(by, rows[5]) if one == doing]
                stays += max([made.count(its) for its in made], default=0)
            self.assertEqual(number, 300 - stays)

    def test_the_dict_is_the_askers_own(self):
        told = left_out(SEEN, 0)
        other = left_out(SEEN, 0)
        self.assertIsNot(told, other)
        told.clear()
        self.assertEqual(left_out(SEEN, 0), other)

    def test_most_is_handed_in_by_its_name(self):
        with self.assertRaises(TypeError):
            left_out(SEEN, 0, 3)


if __name__ == "__main__":
    unittest.main()
