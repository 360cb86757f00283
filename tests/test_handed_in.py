"""Of promise [2]: what is handed in stays, and the same is told again."""

import unittest
from copy import deepcopy

from agohands.desk import Desk
from agohands.errors import Late, NoBeat, NoHand, NoRow, NoState, NotLike, NoText, NoWeb, NoWindow, TooLong
from agohands.explains import explaining, fits, is_seen, left_out
from agohands.far import doing_at, doings_from, scene_at
from agohands.forgets import forgets, hangs_on, web_forgets
from agohands.keeps import kept_copies
from agohands.likeness import first_apart, first_parted, order_of, renamed, side_by_side
from agohands.meetings import how_often, is_test, kth_doing, times_of
from agohands.papers import round_fault, round_paper, source_fault, source_paper
from agohands.rows import plain_rows
from agohands.running import Running, running_of
from agohands.stories import changed, is_story, story_doing, story_scene, story_source
from agohands.texts import read_web, show_web
from agohands.times import (
    beside, both, count_below, either, is_meant, is_times, kth, moved, without,
)
from agohands.traces import source, trace
from agohands.turns import after, is_turn, power, settles
from agohands.webs import clock, idle_rules, is_web, most_ago, rule_at
from agohands.windows import (
    hand_round, may_be_window, next_window, scene_of, scene_round, web_round, window_at,
)

WEB = (3, (0, 2), (
    ((3, 2, ("own", (0, 1))), (1, 0, ("copy", 1, 1, (1, 2, 0)))),
    ((2, 1, ("copy", 0, 12, (2, 2, 2))), (4, 3, ("own", (2,))), (1, 0, ("copy", 1, 5, (0, 1, 2)))),
))
TURN = (1, 2, 0, 0)
SELF = (3, (0,), (((1, 0, ("copy", 0, 1, (1, 2, 0))),),))

# Each hand goes round soon, all together after more than 5,000 beats.
APART = (9, (0, 0, 0), tuple(
    ((1, 0, ("copy", hand, ago, (*range(1, size), 0, *range(size, 9)))),)
    for hand, (ago, size) in enumerate(((10, 5), (11, 9), (7, 7)))
))

OTHER = (3, (0,), (((1, 0, ("own", (1, 2))),),))
STORY = ((0, SELF), (4, OTHER), (6, SELF))
SEEN = (3, (0, 2), ((1, 2, 0), (2, 1, 1)))
TEXT = "doings 3\nhand 0\nevery 1 at 0 copy 0 ago 1 by 1 2 0\n"
ROUND = (SELF, 0, 0, 3, (0, ((0,),)))
SOURCE = (SELF, 0, 4, 2, (0, -1, (2, 0, 1), 5), [(((0, 0),), 5)])

ODD, LATE = (0, 2, (), (1,)), (3, 1, (1,), (0,))

CALLS = (
    (is_turn, (4, TURN), True),
    (is_turn, (2, [0, [1]]), False),
    (is_turn, (2, {0: [1]}), False),
    (after, (TURN, (3, 3, 2, 1)), (3, 2, 3, 3)),
    (power, (TURN, 10 ** 18), (1, 2, 0, 0)),
    (settles, (TURN,), (1, 3)),
    (is_web, (WEB,), True),
    (is_web, ([3, [0, 2], [[], [1]]],), False),
    (is_web, ((3, (0,), ([(1, 0, ("own", [0]))],)),), False),
    (clock, (WEB,), 12),
    (most_ago, (WEB,), 12),
    (rule_at, (WEB, 1, 10 ** 18), 2),
    (idle_rules, (WEB,), [[], [1]]),
    (plain_rows, (WEB, 6), [[0, 0, 0, 0, 0, 1], [2, 2, 2, 2, 2, 2]]),
    (trace, (WEB, 0, 7), [(0, 7), (1, 6), (1, 1), (0, -11)]),
    (source, (SELF, 0, 10 ** 18), (0, -1, (2, 0, 1), 10 ** 18 + 1)),
    (doing_at, (SELF, 0, 10 ** 18), 2),
    (scene_at, (SELF, 10 ** 18), (2,)),
    (doings_from, (SELF, 0, 10 ** 18 - 4, 5), [1, 2, 0, 1, 2]),
    (window_at, (SELF, 10 ** 18), (0, ((1,),))),
    (may_be_window, (SELF, (0, ((1,),))), True),
    (may_be_window, (SELF, (0, [[1]])), False),
    (scene_of, (SELF, (0, ((1,),))), (2,)),
    (next_window, (SELF, (0, ((1,),))), (0, ((2,),))),
    (web_round, (WEB,), (12, 12)),
    (hand_round, (WEB, 1), (0, 1)),
    (scene_round, (WEB,), (0, 6)),
    (is_times, (ODD,), True),
    (is_times, ((0, 2, [], [1]),), False),
    (is_meant, (ODD, 10 ** 18), False),
    (count_below, (ODD, 10 ** 18), 10 ** 18 // 2),
    (kth, (ODD, 10 ** 18), 2 * 10 ** 18 + 1),
    (both, (ODD, LATE), (0, 2, (), (1,))),
    (either, (ODD, LATE), (3, 1, (1,), (0,))),
    (without, (ODD, LATE), (0, 1, (), ())),
    (beside, (ODD,), (0, 2, (), (0,))),
    (moved, (ODD, 1), (1, 2, (), (0,))),
    (is_test, (WEB, ("not", ("does", 0, 1))), True),
    (is_test, (WEB, ["not", ("does", 0, 1)]), False),
    (is_test, (WEB, ("all", [("does", 0, 1)])), False),
    (times_of, (WEB, ("any", (("does", 0, 1), ("goes", 1, 0)))), (0, 2, (), (1,))),
    (how_often, (WEB, 0, 6), [5, 1, 0]),
    (kth_doing, (WEB, 0, 1, 10 ** 17), 6 * 10 ** 17 + 5),
    (first_apart, (WEB, 0, WEB, 1), 0),
    (first_parted, (WEB, WEB), None),
    (renamed, (SELF, [0], (1, 0, 2)), (3, (1,), (((1, 0, ("copy", 0, 1, (2, 0, 1))),),))),
    (order_of, (WEB, WEB), [0, 1]),
    (side_by_side, (SELF, SELF), (3, (0, 0), (SELF[2][0], ((1, 0, ("copy", 1, 1, (1, 2, 0))),)))),
    (is_story, (STORY,), True),
    (is_story, ([[0, SELF]],), False),
    (is_story, (((0, [3, [0], []]),),), False),
    (story_doing, (STORY, 0, 10 ** 18), 1),
    (story_scene, (STORY, 5), (2,)),
    (story_source, (STORY, 0, 10 ** 18), (0, 5, (2, 0, 1), 10 ** 18 - 5)),
    (changed, (STORY, 5, SELF), (*STORY[:2], (5, SELF))),
    (round_paper, (SELF, 0), ROUND),
    (round_fault, (ROUND,), None),
    (round_fault, ((*ROUND[:4], [0, [[0]]]),), ("form",)),
    (source_paper, (SELF, 0, 4), SOURCE),
    (source_fault, (SOURCE,), None),
    (source_fault, ((*SOURCE[:5], [(((0, 0),), 6)]),), ("path", 0)),
    (source_fault, ((*SOURCE[:5], [[], [[0, 0]]]),), ("form",)),
    (is_seen, (SEEN,), True),
    (is_seen, ([3, [0, 2], [[1], [2]]],), False),
    (fits, (SEEN, 0), [(0, 1, (1, 2, 0))]),
    (explaining, (SEEN,), (3, (0, 2), (((1, 0, ("copy", 0, 1, (1, 2, 0))),), ((1, 0, ("copy", 0, 1, (2, 1, 1))),)))),
    (left_out, (OTHER[:2] + (((1, 1, 2),),), 0), {(0, ago): 0 if ago == 2 else 1 for ago in range(1, 13)}),
    (hangs_on, (SELF, 0, 10 ** 18), 0),
    (hangs_on, (OTHER, 0, 10 ** 18), None),
    (forgets, (SELF, 0), None),
    (forgets, (WEB, 1), 5),
    (web_forgets, (OTHER,), 0),
    (kept_copies, (OTHER, 0), [(0, 1, (1, 2, 1))]),
    (kept_copies, (SELF, 0), [(0, 1, (1, 2, 0))]),
    (show_web, (SELF,), TEXT),
    (read_web, (TEXT,), SELF),
)
REFUSED = (
    (trace, (SELF, 0, 499), TooLong),
    (web_round, (APART,), TooLong),
    (hand_round, (APART, 0), TooLong),
    (scene_round, (APART,), TooLong),
    (scene_of, (SELF, (0, [[1]])), NoWindow),
    (next_window, (SELF, [0, ((1,),)]), NoWindow),
    (both, ((0, 50000, (), (1,)), (0, 3, (), (1,))), TooLong),
    (moved, ((20000, 1, (19999,), ()), 1), TooLong),
    (times_of, (APART, ("not", ("does", 0, 1))), TooLong),
    (how_often, (APART, 0, 0), TooLong),
    (kth_doing, (APART, 0, 1, 0), TooLong),
    (first_apart, (SELF, 0, APART, 0), TooLong),
    (first_parted, (SELF, APART), NotLike),
    (renamed, (SELF, [[0]], (1, 0, 2)), NotLike),
    (renamed, (SELF, [0], [1, [0], 2]), NotLike),
    (order_of, (APART, APART), TooLong),
    (side_by_side, (SELF, APART), NotLike),
    (changed, (STORY, 5, [3, [0], []]), NotLike),
    (changed, (STORY, 5, WEB), NotLike),
    (round_paper, (APART, 0), TooLong),
    (running_of, ([0, SELF, [[0] * 12]],), NoState),
    (kept_copies, (APART, 0), TooLong),
    (read_web, ([TEXT],), NoText),
    (read_web, (TEXT + "\n",), NoText),
    (Desk().say, (["scene"],), NoRow),
    (Desk().say, ("scene",), NoRow),
    (Desk().say, ("web " + TEXT,), NoText),
)


class HandedIn(unittest.TestCase):
    def test_what_is_handed_in_stays_as_it_was(self):
        for call, handed, _ in CALLS:
            as_it_was = deepcopy(handed)
            call(*handed)
            self.assertEqual(handed, as_it_was, call.__name__)

    def test_asked_again_the_same_is_told(self):
        for call, handed, told in CALLS:
            for _ in range(3):
                self.assertEqual(call(*handed), told, call.__name__)
                self.assertIs(type(call(*handed)), type(told))

    def test_what_is_refused_stays_and_is_refused_again(self):
        for call, handed, refusal in REFUSED:
            as_it_was = deepcopy(handed)
            for _ in range(2):
                with self.assertRaises(refusal):
                    call(*handed)
            self.assertEqual(handed, as_it_was, call.__name__)

    def test_told_lists_and_dicts_are_the_askers_own(self):
        for call, handed, told in CALLS:
            if type(told) in (list, dict):
                one = call(*handed)
                self.assertIsNot(call(*handed), one)
                one.clear()
                self.assertEqual(call(*handed), told, call.__name__)

    def test_told_lists_within_others_are_the_askers_own(self):
        one = idle_rules(WEB)
        one[0].append(None)
        rows = plain_rows(SELF, 2)
        rows[0].append(None)
        paper = source_paper(SELF, 0, 4)
        paper[5].append(None)
        self.assertEqual(idle_rules(WEB), [[], [1]])
        self.assertEqual(plain_rows(SELF, 2), [[1, 2]])
        self.assertEqual(source_paper(SELF, 0, 4), SOURCE)
        same = plain_rows((3, (0, 0), SELF[2] * 2), 3)
        self.assertIsNot(same[0], same[1])

    def test_a_paper_that_is_told_of_and_then_changed(self):
        paper = source_paper(SELF, 0, 4)
        self.assertIsNone(source_fault(paper))
        paper[5].append((((0, 0),), 1))
        self.assertEqual(source_fault(paper), ("path", 1))
        paper[5].clear()
        self.assertEqual(source_fault(paper), ("ends",))
        self.assertEqual(source_paper(SELF, 0, 4), SOURCE)

    def test_other_calls_between_change_nothing(self):
        for _ in range(2):
            for call, handed, told in CALLS:
                self.assertEqual(call(*handed), told, call.__name__)

    def test_a_list_changed_behind_the_call_changes_nothing(self):
        handed = [0, 1]
        self.assertIs(is_turn(2, handed), False)
        handed.append(2)
        self.assertIs(is_turn(2, (0, 1)), True)
        self.assertEqual(handed, [0, 1, 2])


class Runs(unittest.TestCase):
    def test_what_is_handed_in_stays(self):
        state = (5, WEB, ((0,) * 12, (2,) * 12))
        handed = deepcopy((WEB, state))
        running = Running(WEB)
        running.go(10 ** 9)
        running.change(WEB)
        running_of(state).go(77)
        self.assertEqual((WEB, state), handed)

    def test_what_only_asks_changes_nothing(self):
        running = Running(WEB)
        running.go(40)
        for _ in range(500):
            told = (running.scene(), running.now(), running.did(1, 12), running.kept(), len(running))
        other = Running(WEB)
        other.go(40)
        self.assertEqual(told, (other.scene(), other.now(), other.did(1, 12), other.kept(), len(other)))
        self.assertEqual([running.go(1) for _ in range(30)], [other.go(1) for _ in range(30)])

    def test_what_is_refused_changes_nothing(self):
        running = Running(WEB)
        running.go(40)
        kept = running.kept()
        wrong = [3, (0, 2), []]
        for call, handed, refusal in (
            (running.go, [-1], NoBeat), (running.go, [[5]], NoBeat), (running.go, [10 ** 15], Late),
            (running.change, [wrong], NoWeb), (running.change, [SELF], NotLike),
            (running.did, [[0], 0], NoHand), (running.did, [0, [1]], NoBeat),
        ):
            as_it_was = deepcopy(handed)
            with self.assertRaises(refusal):
                call(*handed)
            self.assertEqual(handed, as_it_was)
            self.assertEqual(running.kept(), kept)


if __name__ == "__main__":
    unittest.main()
