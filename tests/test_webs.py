"""Promise [6]: what is a web, its clock and the most ago of its copies."""

import unittest
from math import lcm

from agohands.webs import clock, is_web, most_ago
from things import anything, near_misses

OWN = (1, 0, ("own", (0,)))
WEB = (3, (0, 2), (
    ((3, 2, ("own", (0, 1))), (1, 0, ("copy", 1, 1, (1, 2, 0)))),
    ((2, 1, ("copy", 0, 12, (2, 2, 2))), (4, 3, ("own", (2,))), (1, 0, ("copy", 1, 5, (0, 1, 2)))),
))


def of_hands(*hands, many=3):
    """A web of these hands, each of which did 0 before."""
    return (many, (0,) * len(hands), hands)


def of_rules(*rules, many=3):
    return of_hands(rules, many=many)


def of_last(what, many=3):
    """A web of one hand, of one rule that does what is told."""
    return of_rules((1, 0, what), many=many)


class Told(unittest.TestCase):
    def assert_web(self, thing):
        self.assertIs(is_web(thing), True, thing)

    def assert_none(self, thing):
        self.assertIs(is_web(thing), False)


class IsWeb(Told):
    def test_webs(self):
        self.assert_web(WEB)
        self.assert_web(of_last(("own", (2, 2, 1))))
        self.assert_web(of_last(("copy", 0, 1, (0, 0, 0))))

    def test_doings(self):
        for many in range(1, 10):
            self.assert_web((many, (many - 1,), (((1, 0, ("own", (many - 1,))),),)))
            self.assert_web(of_last(("copy", 0, 1, tuple(range(many))), many=many))
        self.assert_none((0, (0,), ((OWN,),)))
        self.assert_none((0, (), ((OWN,),)))
        self.assert_none((-1, (0,), ((OWN,),)))
        self.assert_none((10, (0,), ((OWN,),)))
        self.assert_none(of_last(("copy", 0, 1, tuple(range(10))), many=10))

    def test_before(self):
        for doing in (0, 1, 2):
            self.assert_web((3, (doing,), ((OWN,),)))
        for doing in (-1, 3, 9, 10 ** 18, True, False, None, "0", (0,)):
            self.assert_none((3, (doing,), ((OWN,),)))
            self.assert_none((3, (0, doing), ((OWN,), (OWN,))))
        self.assert_none((3, (), ((OWN,),)))
        self.assert_none((3, (0, 0), ((OWN,),)))
        self.assert_none((3, (0,), ((OWN,), (OWN,))))
        self.assert_none((3, [0], ((OWN,),)))
        self.assert_none((3, 0, ((OWN,),)))

    def test_hands(self):
        for count in range(1, 7):
            self.assert_web(of_hands(*[(OWN,)] * count))
        self.assert_none(of_hands())
        self.assert_none(of_hands(*[(OWN,)] * 7))
        self.assert_none((3, (0,), [(OWN,)]))

    def test_rules(self):
        for count in range(1, 7):
            self.assert_web(of_rules(*[OWN] * count))
        self.assert_none(of_rules())
        self.assert_none(of_rules(*[OWN] * 7))
        self.assert_none(of_hands((OWN,), ()))
        self.assert_none(of_hands((OWN,), (OWN,) * 7))
        self.assert_none(of_hands([OWN]))

    def test_every_and_at(self):
        for every in range(1, 13):
            for at in range(every):
                self.assert_web(of_rules((every, at, ("own", (0,))), OWN))
            for at in (-1, every, every + 1, -every, 10 ** 18):
                self.assert_none(of_rules((every, at, ("own", (0,))), OWN))
        for every in (0, -1, 13, 24, 10 ** 18, -10 ** 18):
            for at in (-1, 0, 1):
                self.assert_none(of_rules((every, at, ("own", (0,))), OWN))

    def test_the_last_rule_has_every_one(self):
        for every in range(2, 13):
            self.assert_none(of_rules((every, 0, ("own", (0,)))))
            self.assert_none(of_rules(OWN, (every, 0, ("own", (0,)))))
            self.assert_none(of_hands((OWN,), (OWN, (every, every - 1, ("own", (0,))))))
        self.assert_none(of_rules((2, 0, ("own", (0,))), (2, 1, ("own", (0,)))))
        self.assert_none(of_rules((1, 1, ("own", (0,)))))

    def test_own_rows(self):
        for length in range(1, 7):
            self.assert_web(of_last(("own", (2,) * length)))
        for row in ((), (0,) * 7, (3,), (0, 3), (-1, 0), (True,), (0, False), (None,), [0], "0", 0, None):
            self.assert_none(of_last(("own", row)))
        self.assert_none(of_last(("own",)))
        self.assert_none(of_last(("own", (0,), (0,))))

    def test_copied_hands(self):
        for count in range(1, 7):
            for hand in range(count):
                self.assert_web(of_hands(*[((1, 0, ("copy", hand, 1, (0, 1, 2))),)] * count))
            for hand in (-1, count, -count, 10 ** 18, True, None, "0"):
                rule = (1, 0, ("copy", hand, 1, (0, 1, 2)))
                self.assert_none(of_hands(*[(OWN,)] * (count - 1), (rule,)))

    def test_ago(self):
        for ago in range(1, 13):
            self.assert_web(of_last(("copy", 0, ago, (0, 1, 2))))
        for ago in (0, -1, 13, -12, 10 ** 18, True, None, "1", (1,)):
            self.assert_none(of_last(("copy", 0, ago, (0, 1, 2))))

    def test_turns_of_copies(self):
        for turn in ((0, 1), (0, 1, 2, 0), (), (0, 1, 3), (0, -1, 2), (0, True, 2), [0, 1, 2], "012", None, 0):
            self.assert_none(of_last(("copy", 0, 1, turn)))
        self.assert_none(of_last(("copy", 0, 1, (0, 1, 2)), many=2))
        self.assert_none(of_last(("copy", 0, 1, (0, 1, 2)), many=4))

    def test_what_a_rule_does(self):
        for what in (
            (), ("own",), ("copy",), ("copy", 0), ("copy", 0, 1), ("copy", (0,)),
            ("copy", 0, 1, (0, 1, 2), 0), ("own", 0, 1, (0, 1, 2)), ("own", (0,), 0),
            ("Own", (0,)), ("row", (0,)), ("", (0,)), ("own ", (0,)), (b"own", (0,)),
            ("does", 0, 1, (0, 1, 2)), (0, 1, (0, 1, 2)), ((0,),), ("o", "w", "n"), "own", "copy",
            ["own", (0,)], ["copy", 0, 1, (0, 1, 2)], None, 0, True, {}, {"own": (0,)},
        ):
            self.assert_none(of_last(what))

    def test_one_thing_more_or_fewer(self):
        many, before, hands = WEB
        for thing in (
            (), (many,), (many, before), (many, before, hands, 0), (before, hands), (many, hands),
            (many, before, hands, hands), (many, hands, before), (before, many, hands), [many, before, hands],
        ):
            self.assert_none(thing)
        for rule in ((), (1,), (1, 0), (0, ("own", (0,))), (1, 0, ("own", (0,)), 0), (1, 0, 0, ("own", (0,)))):
            self.assert_none(of_rules(rule))
            self.assert_none(of_rules(rule, OWN))

    def test_near_misses(self):
        count = 0
        for thing in near_misses(WEB):
            self.assert_none(thing)
            count += 1
        self.assertGreater(count, 500)

    def test_anything(self):
        for thing in anything():
            self.assert_none(thing)
            self.assert_none((3, (0,), thing))
            self.assert_none((3, thing, thing))
            self.assert_none(of_hands((OWN,), thing))
            self.assert_none(of_rules(thing, OWN))
            self.assert_none(of_rules(thing))
            self.assert_none(of_last(thing))
            self.assert_none((thing, (0,), ((OWN, thing),)))

    def test_a_web_is_no_web_inside_another(self):
        self.assert_none((WEB,))
        self.assert_none((3, (0,), WEB))
        self.assert_none((WEB, WEB, WEB))


def rule(every, length):
    """A rule by an own row of so many doings, or, of none, by a copy."""
    if length:
        return (every, every - 1, ("own", (0,) * length))
    return (every, 0, ("copy", 0, 1, (0, 1, 2)))


class Clock(Told):
    def test_of_every_alone(self):
        for every in range(1, 13):
            web = of_rules(rule(every, 0), OWN)
            self.assertEqual(clock(web), every)
            self.assertIs(type(clock(web)), int)

    def test_of_every_times_the_length_of_own_rows(self):
        for every in range(1, 13):
            for length in range(1, 7):
                web = of_rules(rule(every, length), OWN)
                self.assertEqual(clock(web), every * length)
                self.assert_web(web)

    def test_of_last_rules(self):
        self.assertEqual(clock(of_last(("copy", 0, 12, (0, 0, 0)))), 1)
        for length in range(1, 7):
            self.assertEqual(clock(of_last(("own", (1,) * length))), length)

    def test_of_several_rules(self):
        for one in range(1, 13):
            for other in range(1, 13):
                self.assertEqual(clock(of_rules(rule(one, 0), rule(other, 0), OWN)), lcm(one, other))
                two = of_rules(rule(one, 4), rule(other, 0), OWN)
                self.assertEqual(clock(two), lcm(one * 4, other))

    def test_of_several_hands(self):
        self.assertEqual(clock(WEB), 12)
        self.assertEqual(clock(of_hands((rule(8, 0), OWN), (rule(3, 0), OWN), (rule(1, 5),))), 120)

    def test_of_rules_that_are_never_gone_by(self):
        self.assertEqual(clock(of_rules(OWN, rule(7, 2), OWN)), 14)
        self.assertEqual(clock(of_rules(OWN, rule(11, 0), OWN)), 11)

    def test_at_most_240(self):
        for web in (
            of_rules(rule(12, 4), rule(5, 0), OWN),
            of_rules(rule(5, 0), rule(8, 2), rule(1, 3)),
            of_hands((rule(12, 4), OWN), (rule(10, 0), OWN)),
            of_hands((rule(8, 6), OWN), (rule(1, 5),)),
        ):
            self.assertEqual(clock(web), 240)
            self.assert_web(web)
        for web, beats in (
            (of_rules(rule(11, 3), rule(7, 0), OWN), 231),
            (of_rules(rule(12, 0), rule(9, 2), rule(10, 0), OWN), 180),
        ):
            self.assertEqual(clock(web), beats)
            self.assert_web(web)

    def test_above_240(self):
        for web, beats in (
            # No web has a clock from 241 to 251.
            (of_rules(rule(4, 0), rule(9, 0), rule(7, 0), OWN), 252),
            (of_hands((rule(4, 0), OWN), (rule(9, 0), OWN), (rule(7, 0), OWN)), 252),
            (of_rules(rule(12, 3), rule(7, 0), OWN), 252),
            (of_hands((rule(7, 6), OWN), (rule(9, 4), OWN)), 252),
            (of_rules(OWN, rule(12, 3), rule(7, 0), OWN), 252),
            (of_rules(rule(12, 4), rule(9, 0), rule(5, 0), OWN), 720),
            (of_hands(*[(rule(every, 0), OWN) for every in (12, 11, 10, 9, 8, 7)]), 27720),
        ):
            self.assertEqual(clock(web), beats)
            self.assert_none(web)


class MostAgo(unittest.TestCase):
    def test_no_hand_copies(self):
        self.assertEqual(most_ago(of_hands((OWN,))), 0)
        web = of_hands((rule(12, 6), OWN), (rule(3, 5),))
        self.assertEqual(most_ago(web), 0)
        self.assertIs(type(most_ago(web)), int)

    def test_of_one_copy(self):
        for ago in range(1, 13):
            self.assertEqual(most_ago(of_last(("copy", 0, ago, (0, 1, 2)))), ago)

    def test_of_several_copies(self):
        self.assertEqual(most_ago(WEB), 12)
        copies = [(1, 0, ("copy", 0, ago, (0, 1, 2))) for ago in (3, 8, 5)]
        self.assertEqual(most_ago(of_rules(*copies)), 8)
        self.assertEqual(most_ago(of_hands(*[(copy,) for copy in copies])), 8)
        self.assertEqual(most_ago(of_hands((copies[0],), (OWN,), (copies[2], OWN))), 5)

    def test_of_a_rule_that_is_never_gone_by(self):
        self.assertEqual(most_ago(of_rules(OWN, (1, 0, ("copy", 0, 9, (0, 1, 2))))), 9)
        self.assertEqual(most_ago(of_rules(OWN, (5, 2, ("copy", 0, 4, (0, 1, 2))), OWN)), 4)

    def test_an_own_row_is_no_copy(self):
        self.assertEqual(most_ago(of_last(("own", (8,) * 6), many=9)), 0)


if __name__ == "__main__":
    unittest.main()
