"""Of promise [32]: whose before doings hang on, and from when on before is forgotten."""

import unittest
from itertools import product
from random import Random

from agohands.far import doing_at
from agohands.forgets import forgets, hangs_on, web_forgets
from agohands.traces import source
from plain import (
    APART, FAR, FROM_THE_FIRST, JUST_IN_TIME, JUST_TOO_LATE, KINDS, MIXED, NO_COPIES, ONE_DOING, WIDE, WIDE_CIRCLE,
    a_web, alone, chain, circle, copy, going, own, plain_clock, rule_of, webs,
)

# The way back goes round so many beats of these hands, all but one of their turns leave all as it is.
ONE_IN_MANY = (
    copy(1, 11, chain(8), every=12, at=5), copy(1, 11, range(9), every=10, at=3), copy(1, 11, range(9)),
)


def with_before(web, before):
    return web[0], tuple(before), web[2]


def befores(web):
    return product(range(web[0]), repeat=len(web[2]))


def sets_on(web, beats):
    """For each hand what it may do at these beats: all sources' doings but below 0, one by one."""
    rows = [[] for _ in web[2]]
    every = frozenset(range(web[0]))
    for beat in range(beats):
        for hand, row in enumerate(rows):
            size, _, what = rule_of(web, hand, beat)
            if what[0] == "own":
                row.append(frozenset([what[1][beat // size % len(what[1])]]))
            else:
                _, copied, ago, turn = what
                its = rows[copied][beat - ago] if beat >= ago else every
                row.append(frozenset(turn[doing] for doing in its))
    return rows


def plain_forgets(web, beats):
    """For each hand from when on it forgets, by sets gone on with till they come again, else None."""
    rows = sets_on(web, beats)
    met, size = {}, plain_clock(web)
    for beat in range(12, beats):
        key = (beat % size, tuple(tuple(row[beat - 12:beat]) for row in rows))
        if key in met:
            break
        met[key] = beat
    else:
        return None
    told = []
    for row in rows:
        hanging = [at for at in range(beat) if len(row[at]) > 1]
        last = max(hanging, default=-1)
        told.append(None if last >= met[key] else last + 1)
    return told


def small_webs(count, seed):
    chance = Random(seed)
    found = []
    while len(found) < count:
        web = a_web(chance, own=chance.choice((0.4, 0.2, 0.1, 0)), most_hands=3)
        if web[0] ** len(web[2]) <= 130:
            found.append(web)
    return found


class HangsOn(unittest.TestCase):
    def test_as_told_by_hand(self):
        web = (3, (0, 1), ((copy(1, 2, circle(3, 3)),), (copy(0, 1, (1, 1, 2), every=2), own(2, every=5), copy(0, 1, range(3)))))
        # Hand 1's own doing at beat 5 is copied at 7, and so on.
        self.assertEqual([hangs_on(web, 0, beat) for beat in (0, 1, 2, 7)], [1, 1, 0, None])
        self.assertEqual([hangs_on(web, 1, beat) for beat in (0, 1, 5, 6)], [0, 1, None, None])
        self.assertEqual(hangs_on(web, 0, FAR), None)

    def assert_by_putting_each(self, web, hand, beat, all_before):
        told = hangs_on(web, hand, beat)
        doings = {doing_at(with_before(web, before), hand, beat) for before in all_before}
        if len(doings) == 1:
            self.assertIsNone(told)
            return
        self.assertEqual(told, source(web, hand, beat)[0])
        # It hangs on nobody else's before.
        for doing in range(web[0]):
            only = {
                doing_at(with_before(web, before), hand, beat) for before in all_before if before[told] == doing
            }
            self.assertLessEqual(len(only), 1)

    def test_by_putting_each_tuple_in_the_place_of_before(self):
        for web in small_webs(60, 1):
            all_before = list(befores(web))
            for beat in (0, 1, 2, 11, 12, 50, 333, FAR - 1, FAR):
                self.assert_by_putting_each(web, beat % len(web[2]), beat, all_before)

    def test_of_wide_webs_near_and_far(self):
        chance = Random(2)
        for web in (*webs(30, seed=3), *KINDS):
            alikes = [(doing,) * len(web[2]) for doing in range(web[0])]
            for beat in (0, 5, 30, 10 ** 9, FAR):
                hand = chance.randrange(len(web[2]))
                doings = {doing_at(with_before(web, before), hand, beat) for before in alikes}
                begun_by, begun_at, _, _ = source(web, hand, beat)
                told = hangs_on(web, hand, beat)
                self.assertEqual(told, begun_by if len(doings) > 1 else None)
                if begun_at >= 0:
                    self.assertIsNone(told)

    def test_what_was_before_itself_counts_nothing(self):
        for web in (*webs(20, seed=4), *KINDS):
            for beat in (3, 90, FAR):
                for other in ((0,) * len(web[2]), (web[0] - 1,) * len(web[2])):
                    self.assertEqual(hangs_on(web, 0, beat), hangs_on(with_before(web, other), 0, beat))

    def test_a_source_below_zero_whose_turn_makes_one_doing_of_all(self):
        for made in range(3):
            web = (3, (0, 1), ((copy(1, 1, (made,) * 3),), (copy(1, 1, circle(3, 3)),)))
            for beat in (0, 1, 10 ** 9, FAR):
                self.assertEqual(source(web, 0, beat)[:2], (1, -1))
                self.assertIsNone(hangs_on(web, 0, beat))
                self.assertEqual(hangs_on(web, 1, beat), 1)
        # One of all but one is not one of all.
        web = (3, (0, 1), ((copy(1, 1, (0, 0, 1)),), (copy(1, 1, circle(3, 3)),)))
        for beat in (0, 1, FAR):
            self.assertEqual(hangs_on(web, 0, beat), 1)

    def test_one_doing_hangs_on_nothing(self):
        for beat in (0, 1, 2, 3, FAR):
            self.assertIsNone(hangs_on(ONE_DOING, 0, beat))

    def test_hands_that_settle(self):
        web = alone((copy(0, 12, chain(8)),))
        for beat in range(0, 84):
            self.assertEqual(hangs_on(web, 0, beat), 0)
        for beat in (84, 85, 95, 96, 200, FAR):
            self.assertIsNone(hangs_on(web, 0, beat))


class Forgets(unittest.TestCase):
    def test_as_told_by_hand(self):
        self.assertEqual([forgets(NO_COPIES, hand) for hand in (0, 1)], [0, 0])
        self.assertEqual(forgets(alone((copy(0, 12, chain(8)),)), 0), 84)
        self.assertEqual(forgets(alone((copy(0, 1, chain(8)),)), 0), 7)
        self.assertIsNone(forgets(alone((copy(0, 1, circle(2)),)), 0))
        self.assertEqual(forgets(ONE_DOING, 0), 0)
        self.assertEqual(forgets(alone((copy(0, 5, (3,) * 9),)), 0), 0)
        self.assertEqual(forgets(alone((own(1, every=12, at=11), copy(0, 1, circle(9)))), 0), 11)

    def test_a_hand_that_copies_one_that_forgets_late(self):
        late = (copy(0, 12, chain(8)),)
        web = alone(late, (copy(0, 12, circle(9)),), (copy(1, 3, circle(9)),), (copy(3, 1, circle(9)),))
        self.assertEqual([forgets(web, hand) for hand in range(4)], [84, 96, 99, None])
        self.assertIsNone(web_forgets(web))
        self.assertEqual(web_forgets((9, (0,) * 3, web[2][:3])), 99)

    def test_by_going_on_with_all_that_may_be_done(self):
        found = []
        for web in (*small_webs(150, 5), *webs(60, seed=6), MIXED, WIDE, NO_COPIES, ONE_DOING):
            told = plain_forgets(web, 1500)
            if told is not None:
                found.extend(told)
                self.assertEqual([forgets(web, hand) for hand in range(len(web[2]))], told)
                self.assertEqual(web_forgets(web), None if None in told else max(told))
        self.assertGreater(found.count(None), 50)
        self.assertGreater(len([beat for beat in found if beat]), 100)
        self.assertGreater(found.count(0), 10)

    def assert_from_then_on(self, web, hand, told, beats):
        """At the beat ahead of it one hangs on before, from it on none, near and far."""
        if told > 0:
            self.assertIsNotNone(hangs_on(web, hand, told - 1))
        for beat in beats:
            self.assertIsNone(hangs_on(web, hand, told + beat))

    def test_at_the_beat_ahead_one_does_and_from_it_on_none(self):
        for web in (*small_webs(60, 7), *webs(30, seed=8), *KINDS):
            for hand in range(len(web[2])):
                told = forgets(web, hand)
                if told is None:
                    for beat in (5000, FAR - 240):
                        self.assertTrue(any(hangs_on(web, hand, beat + k) is not None for k in range(240)))
                else:
                    self.assert_from_then_on(web, hand, told, (*range(0, 300, 7), FAR // 2, FAR // 2 + 5))

    def test_webs_that_do_not_go_round_in_time(self):
        for web in (APART, WIDE_CIRCLE):
            for hand in range(len(web[2])):
                self.assertIsNone(forgets(web, hand))
            self.assertIsNone(web_forgets(web))
        self.assertEqual([forgets(JUST_TOO_LATE, hand) for hand in range(4)], [None, None, 35, 40])
        self.assertEqual([forgets(JUST_IN_TIME, hand) for hand in range(4)], [None, None, 35, 39])
        self.assertEqual(forgets(FROM_THE_FIRST, 5), 0)
        # A hand that forgets beside those that never go round in time.
        web = (*APART[:1], (0,) * 4, (*APART[2], (copy(3, 9, chain(8)),)))
        self.assertEqual([forgets(web, hand) for hand in range(4)], [None, None, None, 63])
        self.assertIsNone(web_forgets(web))

    def test_two_hands_that_forget_behind_thousands_of_beats(self):
        # Only each twelfth beat's row of hand 0 makes fewer of them, and the way
        # back comes to it seldom.
        web = (9, (0, 0), (
            (copy(1, 12, chain(8), every=12, at=0), copy(1, 12, range(9))),
            (copy(0, 11, range(9), every=12, at=11), copy(1, 12, range(9))),
        ))
        self.assertEqual(forgets(web, 0), self.plain(web, 0))
        for size, its in ((5, 7), (7, 11), (8, 9)):
            web = (9, (3, 0), (
                (copy(1, 12, chain(8), every=size, at=0), copy(0, 12, range(9), every=its, at=3), copy(1, 11, range(9))),
                (copy(0, 11, range(9), every=size, at=1), copy(1, 7, range(9), every=its, at=1), copy(0, 12, range(9))),
            ))
            for hand in (0, 1):
                self.assertEqual(forgets(web, hand), self.plain(web, hand))

    def plain(self, web, hand):
        told = plain_forgets(web, 20000)
        self.assertIsNotNone(told)
        return told[hand]

    def test_late(self):
        found = []
        chance = Random(9)
        for _ in range(300):
            web = self.slow_web(chance)
            told = [forgets(web, hand) for hand in (0, 1)]
            if told[0] is not None and told[1] is not None and min(told) > 2000:
                found.append(min(told))
                for hand in (0, 1):
                    self.assert_from_then_on(web, hand, told[hand], (*range(0, 3000, 29), FAR // 2, FAR // 2 + 1))
                    row = sets_on(web, max(told) + 3000)[hand]
                    self.assertGreater(len(row[told[hand] - 1]), 1)
                    self.assertEqual({len(its) for its in row[told[hand]:]}, {1})
                self.assertEqual(web_forgets(web), max(told))
        self.assertGreater(len(found), 3)

    def slow_web(self, chance):
        """Two hands with one rule that makes fewer of all, seldom come to."""
        turns = [range(9)] * 5 + [chain(8)]
        hands = []
        for hand in (0, 1):
            rules = []
            for every in (8, 12, 5):
                turn = chance.choice(turns)
                rules.append(copy(chance.randrange(2), chance.randint(9, 12), turn, every=every, at=chance.randrange(every)))
            hands.append((*rules, copy(1 - hand, chance.randint(10, 12), range(9))))
        return 9, (0, 1), tuple(hands)

    def test_hanging_at_some_beats_of_each_clock(self):
        # Of all doings some are left and are led round: hand 1 makes one of
        # them at some beats, and two at others.
        web = (4, (0, 0), ((copy(0, 1, (1, 2, 0, 0)),), (copy(0, 1, (0, 0, 1, 0)),)))
        self.assertEqual([forgets(web, hand) for hand in (0, 1)], [None, None])
        web = (4, (0, 0), ((copy(0, 3, (0, 0, 1, 1), every=4), copy(0, 1, (1, 2, 0, 3))), (copy(0, 1, (0, 0, 1, 0)),)))
        told = plain_forgets(web, 3000)
        self.assertEqual([forgets(web, hand) for hand in (0, 1)], told)
        rows = sets_on(web, 1000)
        self.assertEqual({len(its) for its in rows[1][900:]}, {1, 2})

    def test_of_many_turns_that_make_few_of_many(self):
        one_apart = (0, 1, 0, 0, 0, 0, 0, 0, 0)
        web = alone((copy(0, 1, circle(9)),), (copy(0, 1, one_apart),), (copy(1, 1, one_apart),))
        self.assertEqual([forgets(web, hand) for hand in range(3)], [None, None, None])
        chance = Random(10)
        for _ in range(60):
            turns = [tuple(chance.randrange(5) for _ in range(5)) for _ in range(4)]
            web = (5, (0, 0), (
                (copy(0, chance.randint(1, 4), turns[0], every=3, at=1), copy(0, chance.randint(1, 4), circle(5, 5))),
                (copy(0, chance.randint(1, 4), turns[1], every=2, at=1), copy(0, 1, turns[2])),
            ))
            told = plain_forgets(web, 4000)
            self.assertIsNotNone(told)
            self.assertEqual([forgets(web, hand) for hand in (0, 1)], told)


class WebForgets(unittest.TestCase):
    def test_the_greatest_of_its_hands(self):
        for web in (*small_webs(80, 11), *webs(40, seed=12), *KINDS):
            told = [forgets(web, hand) for hand in range(len(web[2]))]
            self.assertEqual(web_forgets(web), None if None in told else max(told))

    def test_none_where_one_is_none(self):
        for at in range(4):
            hands = [(own(1, 2),), (copy(0, 3, circle(9)),), (copy(1, 12, chain(8)),)]
            hands.insert(at, (copy(at, 1, circle(9)),))
            moved = []
            for k, (rule,) in enumerate(hands):
                if k != at and rule[2][0] == "copy":
                    copied = rule[2][1] + (1 if rule[2][1] >= at else 0)
                    rule = (*rule[:2], ("copy", copied, *rule[2][2:]))
                moved.append((rule,))
            web = alone(*moved)
            self.assertIsNone(forgets(web, at))
            self.assertIsNone(web_forgets(web))
            self.assertEqual([forgets(web, hand) for hand in range(4) if hand != at], [0, 3, 15])

    def test_what_is_told(self):
        self.assertIs(type(web_forgets(NO_COPIES)), int)
        self.assertIs(type(forgets(MIXED, 0)), int)
        self.assertIs(type(hangs_on(WIDE_CIRCLE, 0, 0)), int)


if __name__ == "__main__":
    unittest.main()
