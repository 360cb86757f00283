"""The refusals and how they are made."""

import unittest

from agohands import errors

MADE_OF_TEXT = (
    "TooLong", "NoWindow", "NotLike", "NoBeat",
    "NoWeb", "NoHand", "NoState", "NoText", "NoRow",
)


class Refusals(unittest.TestCase):
    def test_hand_error_is_a_value_error(self):
        self.assertTrue(issubclass(errors.HandError, ValueError))

    def test_each_stands_straight_under_hand_error(self):
        for name in (*MADE_OF_TEXT, "Late"):
            with self.subTest(name=name):
                self.assertEqual(getattr(errors, name).__bases__, (errors.HandError,))

    def test_no_refusal_is_another_one(self):
        for name in MADE_OF_TEXT:
            for other in (*MADE_OF_TEXT, "Late"):
                if name != other:
                    self.assertFalse(issubclass(getattr(errors, name), getattr(errors, other)))

    def test_each_is_made_of_a_text(self):
        for name in ("HandError", *MADE_OF_TEXT):
            with self.subTest(name=name):
                refusal = getattr(errors, name)
                with self.assertRaises(refusal) as caught:
                    raise refusal("so it is")
                self.assertEqual(str(caught.exception), "so it is")

    def test_late_is_made_of_a_beat(self):
        for beat in (0, 10 ** 15 + 1, 10 ** 18, 10 ** 5000):
            with self.assertRaises(errors.Late) as caught:
                raise errors.Late(beat)
            self.assertEqual(caught.exception.at, beat)
            self.assertIs(type(caught.exception.at), int)

    def test_late_keeps_the_beats_apart(self):
        one, other = errors.Late(3), errors.Late(4)
        self.assertEqual((one.at, other.at), (3, 4))


if __name__ == "__main__":
    unittest.main()
