"""Of promise [31]: a desk that answers rows."""

import unittest
from random import Random

from agohands.desk import Desk
from agohands.errors import HandError, Late, NoBeat, NoHand, NoRow, NotLike, NoText, TooLong
from agohands.far import doing_at
from agohands.running import Running
from agohands.texts import show_web
from agohands.traces import source
from agohands.windows import hand_round
from plain import APART, KINDS, MIXED, WIDE_CIRCLE, a_web, alone, circle, copy, going, own, webs
from things import anything

LAST = 10 ** 15
OWN = (3, (0, 2), ((own(1, 2),), (own(0),)))
OWN_ROW = "doings 3;hand 0;every 1 at 0 own 1 2;hand 2;every 1 at 0 own 0"
MIXED_ROW = (
    "doings 3;hand 0;every 3 at 2 own 0 1;every 1 at 0 copy 1 ago 1 by 1 2 0;"
    "hand 2;every 2 at 1 copy 0 ago 12 by 2 2 2;every 4 at 3 own 2;every 1 at 0 copy 1 ago 5 by 0 1 2"
)
ASKING = (
    "scene", "beat", "rules", "did 0 1", "did 1 12", "at 0 0", "at 1 1000000000000000000", "source 0 999", "round 0", "round 1",
)


def row_of(web):
    return ";".join(show_web(web).splitlines())


def of(web):
    desk = Desk()
    assert desk.say("web " + row_of(web)) == "ok"
    return desk


def blanks(numbers):
    return " ".join(map(str, numbers))


def told_by(desk):
    return [desk.say(row) for row in ASKING]


class Answers(unittest.TestCase):
    def test_as_told_by_hand(self):
        desk = Desk()
        self.assertEqual(desk.say("web " + MIXED_ROW), "ok")
        self.assertEqual(desk.say("beat"), "0")
        self.assertEqual(desk.say("scene"), "0 2")
        self.assertEqual(desk.say("go 5"), "1 2")
        self.assertEqual(desk.say("beat"), "5")
        self.assertEqual(desk.say("did 1 1"), "2")
        self.assertEqual(desk.say("did 0 12"), "0")
        self.assertEqual(desk.say("at 0 5"), "1")
        self.assertEqual(desk.say("source 0 7"), "0 -1 3")
        self.assertEqual(desk.say("round 0"), "0 6")
        self.assertEqual(desk.say("rules"), MIXED_ROW)
        self.assertEqual(desk.say("change " + OWN_ROW), "ok")
        self.assertEqual(desk.say("rules"), OWN_ROW)
        self.assertEqual(desk.say("scene"), "2 0")
        self.assertEqual(desk.say("go 0"), "2 0")
        self.assertEqual(desk.say("source 1 1000000000000000000"), "1 1000000000000000000 0")

    def test_a_desk_is_made_of_nothing(self):
        with self.assertRaises(TypeError):
            Desk(MIXED)

    def test_against_a_running_and_the_functions_of_webs(self):
        chance = Random(1)
        for web in (*webs(40, seed=2), *KINDS):
            desk, running = of(web), Running(web)
            for n in (0, 1, 7, 300, 10 ** 9, LAST - 10 ** 10):
                self.assertEqual(desk.say("go " + str(n)), blanks(running.go(n)))
                self.assertEqual(desk.say("scene"), blanks(running.scene()))
                self.assertEqual(desk.say("beat"), str(running.now()))
                self.assertEqual(desk.say("rules"), row_of(web))
                hand = chance.randrange(len(web[2]))
                for ago in range(1, 13):
                    self.assertEqual(desk.say("did {} {}".format(hand, ago)), str(running.did(hand, ago)))
                for beat in (0, chance.randrange(1000), 10 ** 18):
                    self.assertEqual(desk.say("at {} {}".format(hand, beat)), str(doing_at(web, hand, beat)))
                    by, at, _, copies = source(web, hand, beat)
                    self.assertEqual(desk.say("source {} {}".format(hand, beat)), blanks((by, at, copies)))
                other = a_web(chance, like=web)
                self.assertEqual(desk.say("change " + row_of(other)), "ok")
                self.assertIsNone(running.change(other))
                web = other

    def test_rounds(self):
        for web in (*webs(30, seed=3), *KINDS):
            desk = of(web)
            for hand in range(len(web[2])):
                try:
                    told = blanks(hand_round(web, hand))
                except TooLong:
                    with self.assertRaises(TooLong):
                        desk.say("round " + str(hand))
                else:
                    self.assertEqual(desk.say("round " + str(hand)), told)

    def test_at_source_and_round_are_of_the_web_that_goes_now_had_it_gone_from_beat_zero(self):
        own_before = (9, (4,), ((copy(0, 1, circle(9)),),))
        desk = of(alone((own(8),)))
        desk.say("go 7")
        desk.say("change " + row_of(own_before))
        self.assertEqual(desk.say("scene"), "0")
        self.assertEqual(desk.say("at 0 0"), "5")
        self.assertEqual(desk.say("at 0 7"), "3")
        self.assertEqual(desk.say("source 0 7"), "0 -1 8")
        self.assertEqual(desk.say("round 0"), "0 9")
        self.assertEqual(desk.say("did 0 1"), "8")

    def test_texts_are_told(self):
        desk = of(MIXED)
        for row in (*ASKING, "go 3", "change " + MIXED_ROW, "web " + MIXED_ROW):
            self.assertIs(type(desk.say(row)), str)

    def test_a_web_in_the_place_of_a_running(self):
        desk = of(MIXED)
        desk.say("go 50")
        self.assertEqual(desk.say("web " + row_of(WIDE_CIRCLE)), "ok")
        self.assertEqual(desk.say("beat"), "0")
        self.assertEqual(desk.say("scene"), blanks(Running(WIDE_CIRCLE).scene()))
        self.assertEqual(desk.say("did 5 12"), str(WIDE_CIRCLE[1][5]))
        self.assertEqual(desk.say("rules"), row_of(WIDE_CIRCLE))
        self.assertEqual(desk.say("web " + row_of(WIDE_CIRCLE)), "ok")

    def test_two_desks_know_nothing_of_one_another(self):
        one, other = of(MIXED), Desk()
        one.say("go 9")
        with self.assertRaises(NoRow):
            other.say("beat")
        other.say("web " + MIXED_ROW)
        self.assertEqual((one.say("beat"), other.say("beat")), ("9", "0"))
        other.say("change " + OWN_ROW)
        self.assertEqual((one.say("rules"), other.say("rules")), (MIXED_ROW, OWN_ROW))
        with self.assertRaises(NoRow):
            Desk().say("scene")

    def test_three_hundred_things_done(self):
        desk, running = Desk(), None
        chance = Random(4)
        web = WIDE_CIRCLE
        for k in range(300):
            kind = k % 5
            if kind == 0 and k % 20 == 0:
                self.assertEqual(desk.say("web " + row_of(web)), "ok")
                running = Running(web)
            elif kind == 1:
                web = a_web(chance, own=0.05, like=web)
                self.assertEqual(desk.say("change " + row_of(web)), "ok")
                running.change(web)
            else:
                n = chance.choice((0, 1, 50, 10 ** 12))
                self.assertEqual(desk.say("go " + str(n)), blanks(running.go(n)))
            self.assertEqual(desk.say("beat"), str(running.now()))

    def test_asking_changes_nothing(self):
        desk = of(MIXED)
        desk.say("go 77")
        told = told_by(desk)
        for _ in range(100):
            self.assertEqual(told_by(desk), told)
        rows = going(MIXED, 80)
        self.assertEqual(desk.say("go 1"), blanks([row[78] for row in rows]))


class Refusals(unittest.TestCase):
    def assert_refused(self, desk, row, refusal):
        """It is refused, and the desk tells what it told ahead."""
        ahead = told_by(desk)
        with self.assertRaises(refusal) as refused:
            desk.say(row)
        self.assertIs(type(refused.exception), refusal)
        self.assertIsInstance(refused.exception, HandError)
        self.assertEqual(told_by(desk), ahead)
        return refused.exception

    def running(self):
        desk = of(MIXED)
        desk.say("go 20")
        return desk

    def test_without_a_running(self):
        desk = Desk()
        for row in (*ASKING, "go 1", "change " + MIXED_ROW, "change ", "change x", "go", "go x", "did 9 99", "round 77", "x"):
            with self.assertRaises(NoRow) as refused:
                desk.say(row)
            self.assertIs(type(refused.exception), NoRow)
        for row in ("web x", "web ", "web \n", "web " + MIXED_ROW + ";"):
            with self.assertRaises(NoText):
                desk.say(row)
            with self.assertRaises(NoRow):
                desk.say("beat")
        self.assertEqual(desk.say("web " + MIXED_ROW), "ok")
        self.assertEqual(desk.say("beat"), "0")

    def test_no_text_at_all(self):
        desk = self.running()
        for thing in (*anything(), b"scene", ["scene"], ("go", 1), None, 5):
            if type(thing) is not str:
                self.assert_refused(desk, thing, NoRow)
                with self.assertRaises(NoRow):
                    Desk().say(thing)

    def test_no_row(self):
        desk = self.running()
        for row in (
            "", " ", "x", "Scene", "SCENE", "scenes", "scene ", " scene", "scene 0", "scene x", "beat ", " beat", "beat 1",
            "go", "go ", "go  1", "go 1 ", " go 1", "go 1 1", "go x", "go -1", "go +1", "go 01", "go 00", "go 1.", "go 1,",
            "go 1_0", "go one", "go 0x1", "go ", "go 1;", "goes 1", "Go 1", "go1", "go\t1",
            "did", "did 0", "did 0 ", "did 0 1 1", "did 0  1", "did  0 1", "did 0 01", "did 00 1", "did 0 -1", "did -1 1",
            "did 0 1 ", "did x 1", "did 0 x", "at", "at 0", "at 0 1 2", "at 0 -1", "at 0 00", "at 0 1 ", "at x 1",
            "source", "source 0", "source 0 1 2", "source 0 -1", "source 00 1", "source 0 x",
            "round", "round ", "round 0 0", "round -1", "round 00", "round x", "round 0 ",
            "rules ", "rules 0", " rules", "rule", "web", "change", " web " + MIXED_ROW, "webs " + MIXED_ROW,
            "Web " + MIXED_ROW, " change " + OWN_ROW, "changes " + OWN_ROW, "web;" + MIXED_ROW, "web" + MIXED_ROW,
            MIXED_ROW, show_web(MIXED), "now", "kept", "len", "go 1;go 1", "scene;beat",
        ):
            self.assert_refused(desk, row, NoRow)

    def test_no_row_of_another_word_has_a_line_feed(self):
        desk = self.running()
        for row in (*ASKING, "go 1"):
            for wrong in (row + "\n", "\n" + row, row.replace(" ", "\n"), row.replace(" ", " \n"), row + "\n" + row):
                if wrong != row:
                    self.assert_refused(desk, wrong, NoRow)
        for wrong in ("web\n" + MIXED_ROW, "change\n" + MIXED_ROW, "\nweb " + MIXED_ROW, "web\n", "change\n"):
            self.assert_refused(desk, wrong, NoRow)

    def test_texts_that_are_none(self):
        desk = self.running()
        for word in ("web ", "change "):
            for text in (
                "", " ", ";", "x", MIXED_ROW + ";", MIXED_ROW + " ", " " + MIXED_ROW, ";" + MIXED_ROW, MIXED_ROW + "\n",
                MIXED_ROW.replace(";", "\n"), show_web(MIXED), MIXED_ROW.replace(";", ";\n", 1), MIXED_ROW.replace(";", "\n", 1),
                MIXED_ROW.replace("doings 3", "doings 03"), MIXED_ROW.replace("own 2", "own 3"), MIXED_ROW + "\nbeat",
                MIXED_ROW.replace(";", ";;", 1), MIXED_ROW.replace(";", ","), "doings 3", "doings 3;hand 0", "\n",
            ):
                self.assert_refused(desk, word + text, NoText)

    def test_not_like(self):
        desk = self.running()
        for web in (
            (4, (0, 2), OWN[2]), (3, (0,), OWN[2][:1]), (3, (0, 2, 0), (*OWN[2], OWN[2][0])), APART, WIDE_CIRCLE,
        ):
            self.assert_refused(desk, "change " + row_of(web), NotLike)
        self.assertEqual(desk.say("change " + row_of((3, (1, 1), OWN[2]))), "ok")

    def test_no_hand(self):
        desk = self.running()
        for hand in (2, 3, 6, 10, 10 ** 18, 10 ** 19 - 1):
            for row in ("did {} 1", "did {} 12", "did {} 0", "did {} 13", "at {} 0", "at {} 9", "source {} 0", "round {}"):
                self.assert_refused(desk, row.format(hand), NoHand)
        alone_at = of(APART)
        for row in ("round 3", "at 3 0"):
            with self.assertRaises(NoHand):
                alone_at.say(row)

    def test_no_beat(self):
        desk = self.running()
        for ago in (0, 13, 14, 100, 10 ** 18, 10 ** 19 - 1):
            for hand in (0, 1):
                self.assert_refused(desk, "did {} {}".format(hand, ago), NoBeat)

    def test_late_with_its_beat(self):
        desk = self.running()
        for n in (LAST - 19, LAST, 10 ** 18, 10 ** 19 - 1):
            refused = self.assert_refused(desk, "go " + str(n), Late)
            self.assertEqual(refused.at, 20 + n)
        self.assertEqual(desk.say("go " + str(LAST - 20)), blanks([doing_at(MIXED, hand, LAST) for hand in (0, 1)]))
        self.assertEqual(self.assert_refused(desk, "go 1", Late).at, LAST + 1)
        self.assertEqual(desk.say("go 0"), desk.say("scene"))

    def test_numbers_of_one_to_nineteen_figures(self):
        desk = self.running()
        for figures in range(1, 20):
            for number in (10 ** (figures - 1), 10 ** figures - 1):
                self.assertEqual(desk.say("at 1 {}".format(number)), str(doing_at(MIXED, 1, number)))
                by, at, _, copies = source(MIXED, 0, number)
                self.assertEqual(desk.say("source 0 {}".format(number)), blanks((by, at, copies)))
        for row in ("at 1 {}", "source 0 {}", "go {}", "did {} 1", "did 0 {}", "round {}", "at {} 1", "source {} 1"):
            for wrong in ("1" + "0" * 19, "9" * 20, "1" + "0" * 40, "9" * 4400):
                self.assert_refused(desk, row.format(wrong), NoRow)
            self.assert_refused(desk, row.format("0" * 19 + "1"), NoRow)

    def test_too_long(self):
        desk = of(APART)
        for hand in range(3):
            with self.assertRaises(TooLong):
                desk.say("round {}".format(hand))
        self.assertEqual(desk.say("beat"), "0")

    def test_the_one_told_first_goes_first(self):
        desk = self.running()
        # No row ahead of all; no text ahead of not like; no hand ahead of no beat and of too long.
        self.assert_refused(desk, "did 9 13", NoHand)
        self.assert_refused(desk, "did 9 x", NoRow)
        self.assert_refused(desk, "change doings 4;hand 0;every 1 at 0 own 4", NoText)
        self.assert_refused(desk, "go " + "9" * 20, NoRow)
        with self.assertRaises(NoHand):
            of(APART).say("round 3")

    def test_behind_refusals_it_goes_on(self):
        desk, running = of(MIXED), Running(MIXED)
        for k in range(30):
            with self.assertRaises(NoRow):
                desk.say("go {} ".format(k))
            with self.assertRaises(NoText):
                desk.say("web " + MIXED_ROW[:-1] + "9")
            with self.assertRaises(Late):
                desk.say("go 1000000000000001")
            self.assertEqual(desk.say("go {}".format(k)), blanks(running.go(k)))


if __name__ == "__main__":
    unittest.main()
