"""Of promise [7]: by which rule a hand goes, and rules never gone by."""

import unittest
from itertools import product

from agohands.webs import clock, idle_rules, is_web, rule_at

ROW = ("own", (0,))
FAR = 10 ** 18


def of_hands(*hands):
    """A web of hands, each told by the (every, at) of its rules."""
    return (1, (0,) * len(hands), tuple(tuple((every, at, ROW) for every, at in hand) for hand in hands))


def plainly_at(web, hand, beat):
    """The rule's number by stepping on from at."""
    for number, (every, at, _) in enumerate(web[2][hand]):
        if beat in range(at, beat + 1, every):
            return number
    return None


def few_ways():
    """Ways of three rules ahead of a last one, of few every."""
    ways = [(every, at) for every in (1, 2, 3, 4, 6) for at in range(every)]
    for one, two in product(ways, repeat=2):
        for three in ((2, 1), (3, 2), (6, 5)):
            yield (one, two, three, (1, 0))


class RuleAt(unittest.TestCase):
    def test_near(self):
        web = of_hands(((3, 1), (2, 0), (1, 0)))
        self.assertEqual([rule_at(web, 0, beat) for beat in range(12)], [1, 0, 1, 2, 0, 2, 1, 0, 1, 2, 0, 2])

    def test_the_first_rule_that_goes(self):
        web = of_hands(((2, 0), (4, 0), (4, 3), (1, 0)))
        self.assertEqual([rule_at(web, 0, beat) for beat in range(8)], [0, 3, 0, 2, 0, 3, 0, 2])

    def test_one_rule(self):
        web = of_hands(((1, 0),))
        for beat in (0, 1, 2, 240, FAR):
            self.assertEqual(rule_at(web, 0, beat), 0)
            self.assertIs(type(rule_at(web, 0, beat)), int)

    def test_a_rule_ahead_that_always_goes(self):
        web = of_hands(((1, 0), (2, 1), (1, 0)))
        for beat in (0, 1, 2, 3, FAR, FAR - 1):
            self.assertEqual(rule_at(web, 0, beat), 0)

    def test_beats_below_at(self):
        web = of_hands(((12, 11), (1, 0)))
        self.assertEqual([rule_at(web, 0, beat) for beat in range(24)], ([1] * 11 + [0]) * 2)

    def test_each_hand_has_its_own(self):
        web = of_hands(((2, 0), (1, 0)), ((2, 1), (1, 0)), ((1, 0),))
        for beat in range(6):
            self.assertEqual([rule_at(web, hand, beat) for hand in range(3)], [beat % 2, 1 - beat % 2, 0])

    def test_as_plainly_told(self):
        for hand in few_ways():
            web = of_hands(((1, 0),), hand)
            for beat in range(13):
                self.assertEqual(rule_at(web, 1, beat), plainly_at(web, 1, beat))

    def test_far(self):
        web = of_hands(((7, 3), (5, 4), (6, 1), (1, 0)))
        self.assertTrue(is_web(web))
        beats = clock(web)
        for beat in list(range(FAR - 250, FAR + 1)) + [10 ** 15, 10 ** 17 + 3, 2 ** 53 + 1, 2 ** 59 - 1]:
            self.assertEqual(rule_at(web, 0, beat), plainly_at(web, 0, beat % beats + beats))

    def test_at_the_last_beat_of_all(self):
        # 10 ** 18 leaves 1 by 3 and by 9, and nothing by 2, 4, 5, 8 and 10.
        self.assertEqual(rule_at(of_hands(((3, 0), (9, 1), (1, 0))), 0, FAR), 1)
        self.assertEqual(rule_at(of_hands(((10, 9), (8, 1), (5, 0), (1, 0))), 0, FAR), 2)
        self.assertEqual(rule_at(of_hands(((10, 9), (8, 1), (5, 4), (1, 0))), 0, FAR), 3)
        self.assertEqual(rule_at(of_hands(((4, 0), (1, 0))), 0, FAR), 0)
        self.assertEqual(rule_at(of_hands(((4, 0), (1, 0))), 0, FAR - 1), 1)


class IdleRules(unittest.TestCase):
    def assert_late(self, hand, rule, beat):
        """No rule of the hand is idle, and this one first goes at the beat."""
        web = of_hands(hand)
        self.assertTrue(is_web(web))
        self.assertEqual([k for k in range(beat + 1) if plainly_at(web, 0, k) == rule], [beat])
        self.assertEqual(idle_rules(web), [[]])

    def test_hands_with_no_idle_rule(self):
        self.assertEqual(idle_rules(of_hands(((1, 0),))), [[]])
        self.assertEqual(idle_rules(of_hands(((3, 1), (2, 0), (1, 0)), ((5, 0), (1, 0)))), [[], []])

    def test_hidden_by_one_rule_ahead(self):
        self.assertEqual(idle_rules(of_hands(((1, 0), (1, 0)))), [[1]])
        self.assertEqual(idle_rules(of_hands(((2, 1), (4, 3), (1, 0)))), [[1]])
        self.assertEqual(idle_rules(of_hands(((2, 1), (4, 2), (1, 0)))), [[]])
        self.assertEqual(idle_rules(of_hands(((4, 3), (2, 1), (1, 0)))), [[]])
        self.assertEqual(idle_rules(of_hands(((3, 2), (3, 2), (12, 5), (1, 0)))), [[1, 2]])

    def test_hidden_by_several_together(self):
        self.assertEqual(idle_rules(of_hands(((2, 0), (2, 1), (1, 0)))), [[2]])
        self.assertEqual(idle_rules(of_hands(((3, 0), (3, 1), (3, 2), (7, 5), (1, 0)))), [[3, 4]])
        self.assertEqual(idle_rules(of_hands(((4, 1), (4, 3), (2, 1), (1, 0)))), [[2]])
        self.assertEqual(idle_rules(of_hands(((2, 0), (3, 0), (6, 1), (6, 5), (1, 0)))), [[4]])

    def test_a_rule_behind_one_that_always_goes(self):
        self.assertEqual(idle_rules(of_hands(((1, 0), (2, 0), (12, 11), (1, 0)))), [[1, 2, 3]])

    def test_first_gone_by_late(self):
        for hand, rule, beat in (
            (((5, 0), (5, 1), (5, 2), (5, 3), (12, 11), (1, 0)), 4, 59),
            (((6, 0), (6, 1), (6, 2), (6, 3), (7, 4), (1, 0)), 4, 4),
            (((6, 0), (6, 1), (6, 2), (6, 4), (7, 2), (1, 0)), 4, 9),
            (((2, 1), (3, 0), (5, 0), (7, 0), (10, 8), (1, 0)), 4, 8),
        ):
            self.assert_late(hand, rule, beat)

    def test_first_gone_by_near_the_end_of_the_clock(self):
        for hand, rule, beat in (
            (((2, 0), (3, 0), (3, 1), (5, 4), (1, 0)), 3, 29),
            (((2, 0), (3, 0), (3, 1), (7, 6), (1, 0)), 3, 41),
            (((4, 0), (4, 1), (4, 2), (3, 1), (3, 0), (1, 0)), 5, 11),
        ):
            self.assert_late(hand, rule, beat)
            self.assertEqual(clock(of_hands(hand)), beat + 1)

    def test_rests_by_all_every_of_the_hand(self):
        web = of_hands(((8, 0), (8, 2), (8, 4), (8, 6), (10, 0), (1, 0)))
        self.assertEqual(idle_rules(web), [[4]])
        web = of_hands(((11, 10), (7, 6), (11, 10), (7, 6), (3, 2), (1, 0)))
        self.assertEqual(idle_rules(web), [[2, 3]])

    def test_hands_know_nothing_of_one_another(self):
        web = of_hands(((1, 0), (1, 0)), ((2, 1), (1, 0)), ((2, 0), (2, 1), (5, 1), (1, 0)))
        self.assertEqual(idle_rules(web), [[1], [], [2, 3]])

    def test_what_a_rule_does_counts_nothing(self):
        copy = ("copy", 0, 3, (1, 0))
        web = (2, (0,), (((2, 1, copy), (4, 1, ("own", (1, 0, 1))), (1, 0, ("own", (1, 0)))),))
        self.assertEqual(idle_rules(web), [[1]])

    def test_as_plainly_told(self):
        for hand in few_ways():
            web = of_hands(hand, ((1, 0), (2, 0), (1, 0)))
            gone_by = {plainly_at(web, 0, beat) for beat in range(12)}
            self.assertEqual(idle_rules(web), [[k for k in range(4) if k not in gone_by], [1, 2]])


class OwnLists(unittest.TestCase):
    def test_lists_are_told(self):
        told = idle_rules(of_hands(((1, 0), (1, 0)), ((1, 0),)))
        self.assertIs(type(told), list)
        self.assertEqual([type(part) for part in told], [list, list])
        self.assertEqual([type(part) for part in told[0]], [int])

    def test_a_told_list_is_the_askers_own(self):
        web = of_hands(((1, 0), (1, 0)), ((1, 0), (1, 0)), ((1, 0),))
        told = idle_rules(web)
        told[0].append(7)
        self.assertEqual(told, [[1, 7], [1], []])
        told[2].append(8)
        told.append([9])
        self.assertEqual(idle_rules(web), [[1], [1], []])

    def test_no_two_told_lists_are_one(self):
        web = of_hands(((1, 0),), ((1, 0),), ((1, 0), (1, 0)), ((1, 0), (1, 0)))
        one, other = idle_rules(web), idle_rules(web)
        lists = [one, other, *one, *other]
        self.assertEqual(len({id(part) for part in lists}), len(lists))

    def test_later_calls_change_no_told_list(self):
        web = of_hands(((1, 0), (1, 0)))
        told = idle_rules(web)
        idle_rules(of_hands(((1, 0),)))
        idle_rules(web)[0].clear()
        self.assertEqual(told, [[1]])


if __name__ == "__main__":
    unittest.main()
