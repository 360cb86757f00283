"""Of promise [2]: what is handed in stays, and the same is told again."""

import unittest
from copy import deepcopy

from agohands.turns import after, is_turn, power, settles
from agohands.webs import clock, idle_rules, is_web, most_ago, rule_at

WEB = (3, (0, 2), (
    ((3, 2, ("own", (0, 1))), (1, 0, ("copy", 1, 1, (1, 2, 0)))),
    ((2, 1, ("copy", 0, 12, (2, 2, 2))), (4, 3, ("own", (2,))), (1, 0, ("copy", 1, 5, (0, 1, 2)))),
))
TURN = (1, 2, 0, 0)

CALLS = (
    (is_turn, (4, TURN), True),
    (is_turn, (2, [0, [1]]), False),
    (is_turn, (2, {0: [1]}), False),
    (after, (TURN, (3, 3, 2, 1)), (3, 2, 3, 3)),
    (power, (TURN, 10 ** 18), (1, 2, 0, 0)),
    (settles, (TURN,), (1, 3)),
    (is_web, (WEB,), True),
    (is_web, ([3, [0, 2], [[], [1]]],), False),
    (is_web, ((3, (0,), ([(1, 0, ("own", [0]))],)),), False),
    (clock, (WEB,), 12),
    (most_ago, (WEB,), 12),
    (rule_at, (WEB, 1, 10 ** 18), 2),
    (idle_rules, (WEB,), [[], [1]]),
)


class HandedIn(unittest.TestCase):
    def test_what_is_handed_in_stays_as_it_was(self):
        for call, handed, _ in CALLS:
            as_it_was = deepcopy(handed)
            call(*handed)
            self.assertEqual(handed, as_it_was, call.__name__)

    def test_asked_again_the_same_is_told(self):
        for call, handed, told in CALLS:
            for _ in range(3):
                self.assertEqual(call(*handed), told, call.__name__)
                self.assertIs(type(call(*handed)), type(told))

    def test_other_calls_between_change_nothing(self):
        for _ in range(2):
            for call, handed, told in CALLS:
                self.assertEqual(call(*handed), told, call.__name__)

    def test_a_list_changed_behind_the_call_changes_nothing(self):
        handed = [0, 1]
        self.assertIs(is_turn(2, handed), False)
        handed.append(2)
        self.assertIs(is_turn(2, (0, 1)), True)
        self.assertEqual(handed, [0, 1, 2])


if __name__ == "__main__":
    unittest.main()
