"""Of promise [30]: webs' texts, shown and read."""

import unittest
from random import Random

from agohands.errors import HandError, NoText
from agohands.texts import read_web, show_web
from agohands.webs import is_web
from plain import KINDS, MIXED, WIDE, alone, circle, copy, own, plain_clock, webs
from things import anything

SIGNS = [chr(code) for code in range(32, 127) if chr(code) != chr(37)] + ["\n"]
MIXED_TEXT = """\
doings 3
hand 0
every 3 at 2 own 0 1
every 1 at 0 copy 1 ago 1 by 1 2 0
hand 2
every 2 at 1 copy 0 ago 12 by 2 2 2
every 4 at 3 own 2
every 1 at 0 copy 1 ago 5 by 0 1 2
"""
# At all bounds: nine doings, six hands of six rules, every 12, ago 12, six doings in a row, a clock of 240.
GREATEST = (9, (8, 0, 8, 0, 8, 0), tuple(
    (
        *[copy(5, 12, circle(9), every=12, at=11 - k) for k in range(3)],
        own(8, 7, every=8, at=7), own(0, 1, 2, 3, 4, every=1) if hand else own(8, 8, 8, 8, 8, 8, every=8),
        own(4),
    )
    for hand in range(6)
))


def plain_text(web):
    """The web's text, as the document spells it."""
    many, before, hands = web
    text = "doings " + str(many) + "\n"
    for doing, rules in zip(before, hands):
        text += "hand " + str(doing) + "\n"
        for every, at, what in rules:
            text += "every " + str(every) + " at " + str(at)
            if what[0] == "own":
                text += " own" + "".join(" " + str(its) for its in what[1])
            else:
                text += " copy " + str(what[1]) + " ago " + str(what[2]) + " by"
                text += "".join(" " + str(its) for its in what[3])
            text += "\n"
    return text


class Show(unittest.TestCase):
    def test_as_the_document_spells_it(self):
        self.assertEqual(show_web(MIXED), MIXED_TEXT)
        self.assertEqual(show_web((1, (0,), ((own(0),),))), "doings 1\nhand 0\nevery 1 at 0 own 0\n")
        self.assertEqual(
            show_web(alone((copy(0, 12, range(9)),), before=8)),
            "doings 9\nhand 8\nevery 1 at 0 copy 0 ago 12 by 0 1 2 3 4 5 6 7 8\n",
        )

    def test_of_some_webs(self):
        for web in (*webs(200, seed=1), *KINDS, GREATEST):
            told = show_web(web)
            self.assertIs(type(told), str)
            self.assertEqual(told, plain_text(web))

    def test_each_row_ends_by_a_line_feed(self):
        for web in (*webs(50, seed=2), *KINDS):
            told = show_web(web)
            self.assertTrue(told.endswith("\n"))
            self.assertEqual(told.count("\n"), 1 + sum(1 + len(rules) for rules in web[2]))
            self.assertNotIn("\n\n", told)
            self.assertNotIn("  ", told)
            self.assertNotIn(" \n", told)


class Read(unittest.TestCase):
    def assert_no_text(self, text):
        with self.assertRaises(NoText) as refused:
            read_web(text)
        self.assertIs(type(refused.exception), NoText)
        self.assertIsInstance(refused.exception, HandError)

    def test_what_is_shown_is_the_web(self):
        for web in (*webs(300, seed=3), *KINDS, GREATEST):
            told = read_web(show_web(web))
            self.assertEqual(told, web)
            self.assertIs(is_web(told), True)
            self.assertEqual(show_web(told), show_web(web))

    def test_as_the_document_spells_it(self):
        self.assertEqual(read_web(MIXED_TEXT), MIXED)
        self.assertEqual(read_web("doings 1\nhand 0\nevery 1 at 0 own 0\n"), (1, (0,), (((1, 0, ("own", (0,))),),)))

    def test_at_the_bounds(self):
        self.assertIs(is_web(GREATEST), True)
        self.assertEqual(plain_clock(GREATEST), 240)
        self.assertEqual(read_web(plain_text(GREATEST)), GREATEST)
        for every, row, right in ((12, 5, True), (12, 6, True), (8, 6, True), (12, 4, True)):
            web = alone((own(*range(row), every=every), own(0)))
            self.assertEqual(read_web(plain_text(web)), web)
        self.assertEqual(plain_clock(alone((own(0, 1, 2, 3, 4, every=12), own(0, 0, 0, 0, every=4), own(0)))), 240)
        right = alone((own(0, 1, 2, 3, 4, every=12), own(0, 0, 0, 0, every=4), own(0)))
        self.assertEqual(read_web(plain_text(right)), right)
        for hands in (
            ((own(0, 1, 2, every=12), own(0, every=7), own(0)),),
            ((own(0, 0, 0, 0, 0, 0, every=11), own(0, 0, every=4), own(0)),),
            ((own(0, every=9), own(0, every=7), own(0, every=4), own(0)),),
        ):
            web = alone(*hands)
            self.assertGreater(plain_clock(web), 240)
            self.assert_no_text(plain_text(web))

    def test_webs_just_beyond(self):
        for web in (
            (10, (0,), ((own(0),),)), (0, (0,), ((own(0),),)), (2, (2,), ((own(0),),)), (2, (0,), ((own(2),),)),
            (2, (0,), ((),)), (2, (), ()), (2, (0,) * 7, ((own(0),),) * 7), (2, (0,), ((own(0),) * 7,)),
            (2, (0,), ((own(0, every=13), own(0)),)), (2, (0,), ((own(0, every=2, at=2), own(0)),)),
            (2, (0,), ((own(0, every=2),),)), (2, (0,), ((own(*[0] * 7),),)), (2, (0,), ((copy(0, 0, (0, 1)),),)),
            (2, (0,), ((copy(0, 13, (0, 1)),),)), (2, (0,), ((copy(1, 1, (0, 1)),),)), (2, (0,), ((copy(0, 1, (0,)),),)),
            (2, (0,), ((copy(0, 1, (0, 1, 1)),),)), (2, (0,), ((copy(0, 1, (0, 2)),),)), (2, (0,), ((copy(0, 1, ()),),)),
            (2, (-1,), ((own(0),),)), (100, (0,), ((own(0),),)), (2, (0,), ((own(),),)),
        ):
            self.assertIs(is_web(web), False)
            self.assert_no_text(plain_text(web))

    def test_each_sign_once_otherwise(self):
        chance = Random(4)
        others = set()
        for text in (MIXED_TEXT, plain_text(WIDE)):
            for place in range(len(text)):
                for _ in range(2 if text != MIXED_TEXT else 12):
                    sign = chance.choice(SIGNS)
                    others.add(text[:place] + sign + text[place + 1:])
                    others.add(text[:place] + sign + text[place:])
                others.add(text[:place] + text[place + 1:])
        self.assert_like_none_but_webs(others)

    def assert_like_none_but_webs(self, texts):
        """Of what is read the text is the very one; all other ones are of no web."""
        read = refused = 0
        for text in texts:
            try:
                web = read_web(text)
            except NoText:
                refused += 1
                self.assertIs(self.may_be_of_a_web(text), False)
            else:
                read += 1
                self.assertIs(is_web(web), True)
                self.assertEqual(plain_text(web), text)
        self.assertGreater(refused, read)

    def may_be_of_a_web(self, text):
        """By the test's own reading: each row's words, and the web that they make."""
        rows = text.split("\n")
        if rows.pop() != "":
            return False
        try:
            web = self.made(rows)
        except (ValueError, IndexError):
            return False
        return is_web(web) and plain_text(web) == text

    def made(self, rows):
        many, before, hands = int(rows[0][len("doings "):]), [], []
        for row in rows[1:]:
            if row.startswith("hand "):
                before.append(int(row[len("hand "):]))
                hands.append([])
                continue
            words = row.split(" ")
            if words[4] == "own":
                what = ("own", tuple(map(int, words[5:])))
            else:
                what = ("copy", int(words[5]), int(words[7]), tuple(map(int, words[9:])))
            hands[-1].append((int(words[1]), int(words[3]), what))
        return many, tuple(before), tuple(map(tuple, hands))

    def test_figures_and_words_once_otherwise(self):
        for text in (MIXED_TEXT, plain_text(alone((copy(0, 12, range(9)),)))):
            words = text.replace("\n", " \n ").split(" ")
            others = set()
            for k, word in enumerate(words):
                made = ["0" + word, "00", "-" + word, "+" + word, word + "0", "1" + word, word.upper(), word.title(), ""]
                made += [word + " ", " " + word, word + ".0", word + ",", "0x" + word, word + "_0", "own", "copy", "99999"]
                for other in made:
                    if other != word:
                        others.add(" ".join([*words[:k], other, *words[k + 1:]]).replace(" \n ", "\n"))
                others.add(" ".join(words[:k] + words[k + 1:]).replace(" \n ", "\n"))
                others.add(" ".join(words[:k] + words[k:k + 1] + words[k:]).replace(" \n ", "\n"))
            others.discard(text)
            self.assert_like_none_but_webs(others)

    def test_noughts_ahead_and_signs(self):
        for wrong in (
            MIXED_TEXT.replace("doings 3", "doings 03"), MIXED_TEXT.replace("hand 0", "hand 00"),
            MIXED_TEXT.replace("ago 1 ", "ago 01 "), MIXED_TEXT.replace("ago 12", "ago +12"),
            MIXED_TEXT.replace("at 0", "at -0"), MIXED_TEXT.replace("own 2", "own 02"),
            MIXED_TEXT.replace("by 2 2 2", "by 2 2 02"), MIXED_TEXT.replace("every 1 ", "every 01 "),
            MIXED_TEXT.replace("copy 0", "copy 00"), MIXED_TEXT.replace("copy 0", "copy -0"),
            MIXED_TEXT.replace("doings 3", "doings 3_"), MIXED_TEXT.replace("doings 3", "doings  3"),
        ):
            self.assertNotEqual(wrong, MIXED_TEXT)
            self.assert_no_text(wrong)

    def test_very_many_figures(self):
        for figures in ("9" * 3, "9" * 19, "9" * 4300, "9" * 4400, "0" * 4900, "1" + "0" * 4900):
            for wrong in (
                "doings " + figures + "\nhand 0\nevery 1 at 0 own 0\n", "doings 3\nhand " + figures + "\nevery 1 at 0 own 0\n",
                "doings 3\nhand 0\nevery " + figures + " at 0 own 0\n", "doings 3\nhand 0\nevery 1 at 0 own " + figures + "\n",
                "doings 3\nhand 0\nevery 1 at 0 copy 0 ago " + figures + " by 0 1 2\n",
            ):
                self.assert_no_text(wrong)

    def test_rows_left_out_twice_or_in_another_order(self):
        rows = MIXED_TEXT.splitlines(keepends=True)
        others = set()
        for k in range(len(rows)):
            others.add("".join(rows[:k] + rows[k + 1:]))
            others.add("".join(rows[:k] + rows[k:k + 1] + rows[k:]))
            others.add("".join(rows[:k] + ["\n"] + rows[k:]))
            for other in range(len(rows)):
                turned = list(rows)
                turned[k], turned[other] = turned[other], turned[k]
                others.add("".join(turned))
        others.discard(MIXED_TEXT)
        self.assert_like_none_but_webs(others)

    def test_line_feeds(self):
        for wrong in (
            "", "\n", "\n\n", MIXED_TEXT[:-1], MIXED_TEXT + "\n", "\n" + MIXED_TEXT, MIXED_TEXT + " ", MIXED_TEXT + MIXED_TEXT,
            MIXED_TEXT.replace("\n", ";"), MIXED_TEXT.replace("\n", "\n\n"), MIXED_TEXT.replace("\n", " \n"),
            MIXED_TEXT.replace("\n", "\n "), MIXED_TEXT.replace("\n", " "), MIXED_TEXT.replace("hand 2\n", "hand 2 "),
            "doings 3", "doings 3\n", "doings\n", "doings 3\nhand 0\n", "hand 0\nevery 1 at 0 own 0\n",
            "doings 3\nevery 1 at 0 own 0\n", "every 1 at 0 own 0\n", "doings 3\nevery 1 at 0 own 0\nhand 0\n",
            "doings 3\nhand 0\nevery 1 at 0 own\n", "doings 3\nhand 0\nevery 1 at 0\n", "doings 3\nhand 0\nevery 1 at 0 \n",
            "doings 3\nhand 0\nevery 1 at 0 copy 0 ago 1 by\n", "doings 3\nhand 0\nevery 1 at 0 copy 0 ago 1\n",
            "doings 3\nhand 0\nevery 1 at 0 copy 0\n", "doings 3\nhand 0\nevery 1 at 0 copy\n", "doings 3\nhand 0\nevery 1\n",
            "doings 3\nhand \nevery 1 at 0 own 0\n", "doings 3\nhand\nevery 1 at 0 own 0\n", "doings 3 \nhand 0\n",
            "doings 3\nhand 0 0\nevery 1 at 0 own 0\n", "doings 3 3\nhand 0\nevery 1 at 0 own 0\n",
            "doings 3\nhand 0\nevery 1 on 0 own 0\n", "doings 3\nhand 0\neach 1 at 0 own 0\n",
            "doings 3\nhand 0\nevery 1 at 0 copy 0 by 1 ago 0 1 2\n", "doing 3\nhand 0\nevery 1 at 0 own 0\n",
            "doings 3\nhands 0\nevery 1 at 0 own 0\n", "DOINGS 3\nhand 0\nevery 1 at 0 own 0\n",
        ):
            self.assert_no_text(wrong)

    def test_of_anything(self):
        for thing in anything():
            self.assert_no_text(thing)
        for thing in (MIXED, [MIXED_TEXT], (MIXED_TEXT,), MIXED_TEXT.encode(), list(MIXED_TEXT), None):
            self.assert_no_text(thing)

    def test_of_long_texts(self):
        for wrong in (
            " " * 5000, "\n" * 5000, "9" * 5000, "hand 0\n" * 700, "doings 3\n" + "hand 0\n" * 700, MIXED_TEXT * 20,
            "doings 3\n" + "hand 0\nevery 1 at 0 own 0\n" * 180, "doings 3\nhand 0\nevery 1 at 0 own" + " 0" * 2400 + "\n",
        ):
            self.assert_no_text(wrong)


if __name__ == "__main__":
    unittest.main()
