"""Of promises [25] and [26]: running hands, and the states that they keep."""

import unittest
from random import Random

from agohands.errors import HandError, Late, NoBeat, NoHand, NoState, NotLike, NoWeb
from agohands.far import doing_at, scene_at
from agohands.running import Running, running_of
from agohands.stories import story_scene
from plain import (
    APART, KINDS, MIXED, NO_COPIES, WIDE, WIDE_CIRCLE, a_web, all_whole, alone, circle, copy, going, gone_far, gone_on,
    own, webs,
)
from things import anything, near_misses

LAST = 10 ** 15
# Webs of many 3, of two hands.
OWN = (3, (0, 2), ((own(1, 2),), (own(0),)))
TURNED = (3, (0, 2), ((copy(1, 12, (1, 2, 0)),), (copy(0, 1, (2, 0, 1)),)))
STAYS = (3, (0, 2), ((copy(0, 1, range(3)),), (copy(1, 1, range(3)),)))
# What is no whole number from 0 on.
NO_NUMBERS = (True, False, None, "0", "1", "", b"1", (), (1,), [1], {}, -1, -2, -10 ** 18, -10 ** 40)


def scenes_of(web, beats):
    return list(zip(*going(web, beats)))


def pasts_of(scenes):
    """The told pasts of the last twelve scenes, the latest last."""
    return tuple(zip(*scenes[:-13:-1]))


def before_of(web):
    return (web[1],) * 12


class Anew(unittest.TestCase):
    def test_at_beat_zero(self):
        for web in (*webs(20, seed=1), *KINDS):
            running = Running(web)
            self.assertEqual(running.now(), 0)
            self.assertEqual(running.scene(), scene_at(web, 0))
            self.assertEqual(len(running), len(web[2]))
            self.assertEqual(running.kept(), (0, web, pasts_of(before_of(web))))
            for hand, before in enumerate(web[1]):
                for ago in range(1, 13):
                    self.assertEqual(running.did(hand, ago), before)

    def test_its_length(self):
        for count in range(1, 7):
            self.assertEqual(len(Running(alone(*[(own(1),)] * count))), count)
        self.assertEqual(len(Running((1, (0,), ((own(0),),)))), 1)

    def test_what_is_told(self):
        running = Running(MIXED)
        for told in (running.go(3), running.scene(), running.kept(), running.kept()[2], running.kept()[2][0]):
            self.assertIs(type(told), tuple)
            self.assertTrue(all_whole(told[:1]))
        self.assertTrue(all_whole(running.go(0)))
        for told in (running.now(), running.did(0, 1), len(running)):
            self.assertIs(type(told), int)
        self.assertIsNone(running.change(MIXED))


class Going(unittest.TestCase):
    def test_as_told_by_hand(self):
        running = Running(alone((copy(0, 1, circle(3)),), (copy(0, 2, circle(9)), ), before=1))
        self.assertEqual(running.scene(), (2, 2))
        self.assertEqual(running.go(0), (2, 2))
        self.assertEqual(running.go(1), (0, 2))
        self.assertEqual(running.go(2), (2, 1))
        self.assertEqual(running.now(), 3)
        self.assertEqual([running.did(0, ago) for ago in range(1, 13)], [1, 0, 2] + [1] * 9)
        self.assertEqual([running.did(1, ago) for ago in range(1, 13)], [3, 2, 2] + [1] * 9)

    def test_as_gone_on_beat_by_beat(self):
        chance = Random(2)
        for web in (*webs(60, seed=3), *KINDS):
            scenes = scenes_of(web, 700)
            running, beat = Running(web), 0
            for n in (0, 1, 1, 2, 0, 11, 12, 13, *(chance.randrange(90) for _ in range(6)), 250):
                beat += n
                if beat < 700:
                    self.assertEqual(running.go(n), scenes[beat])
                    self.assertEqual(running.now(), beat)
                    self.assertEqual(running.scene(), scenes[beat])
                    past = (*before_of(web), *scenes[:beat])
                    self.assertEqual(running.kept(), (beat, web, pasts_of(past)))
                    for hand in range(len(web[2])):
                        for ago in (1, 5, 12):
                            self.assertEqual(running.did(hand, ago), past[-ago][hand])

    def test_just_around_the_clock(self):
        for web in (*webs(30, seed=4), *KINDS):
            scenes = scenes_of(web, 1600)
            for start in (0, 1, 239, 240):
                for n in (1, 12, 13, 228, 239, 240, 241, 251, 252, 253, 480, 493, 1300):
                    running = Running(web)
                    running.go(start)
                    self.assertEqual(running.go(n), scenes[start + n])
                    self.assertEqual(running.did(0, 12), (*before_of(web), *scenes)[start + n][0])

    def test_far(self):
        for web in (*webs(60, seed=5), *KINDS):
            for beat in (10 ** 6 + 1, 10 ** 12, LAST - 13, LAST - 1, LAST):
                running = Running(web)
                self.assertEqual(running.go(beat), scene_at(web, beat))
                for ago in (1, 12):
                    self.assertEqual(running.did(0, ago), doing_at(web, 0, beat - ago))

    def test_far_in_many_goings(self):
        chance = Random(6)
        for web in (WIDE, WIDE_CIRCLE, APART, MIXED, *webs(20, seed=7)):
            running, beat = Running(web), 0
            while beat < LAST:
                n = min(chance.choice((1, 5, 100, 10 ** 6, 10 ** 12, 10 ** 14)) + chance.randrange(300), LAST - beat)
                beat += n
                self.assertEqual(running.go(n), scene_at(web, beat))
            self.assertEqual(running.now(), LAST)
            self.assertEqual(running.go(0), scene_at(web, LAST))

    def test_three_hundred_far_goings(self):
        running = Running(WIDE_CIRCLE)
        for k in range(1, 301):
            running.go(3 * 10 ** 12 + 1)
        self.assertEqual(running.now(), 300 * (3 * 10 ** 12 + 1))
        self.assertEqual(running.scene(), scene_at(WIDE_CIRCLE, 300 * (3 * 10 ** 12 + 1)))

    def test_no_number_of_beats(self):
        for start in (0, 5, LAST):
            running = Running(MIXED)
            running.go(start)
            kept = running.kept()
            for wrong in (*NO_NUMBERS, *anything()):
                if type(wrong) is int and wrong >= 0:
                    continue
                with self.assertRaises(NoBeat) as refused:
                    running.go(wrong)
                self.assertIs(type(refused.exception), NoBeat)
                self.assertEqual(running.kept(), kept)

    def test_late(self):
        for start in (0, 1, 10 ** 9, LAST - 1, LAST):
            running = Running(MIXED)
            running.go(start)
            kept, scene = running.kept(), running.scene()
            for n in (LAST - start + 1, LAST + 1, 10 ** 18, 10 ** 40, 10 ** 5000):
                with self.assertRaises(Late) as refused:
                    running.go(n)
                self.assertEqual(refused.exception.at, start + n)
                self.assertIs(type(refused.exception.at), int)
                self.assertIsInstance(refused.exception, HandError)
                self.assertEqual((running.kept(), running.scene(), running.now()), (kept, scene, start))
            self.assertEqual(running.go(LAST - start), scene_at(MIXED, LAST))
            with self.assertRaises(Late) as refused:
                running.go(1)
            self.assertEqual(refused.exception.at, LAST + 1)
            self.assertEqual(running.go(0), scene_at(MIXED, LAST))


class Did(unittest.TestCase):
    def test_before_beat_zero_too(self):
        running = Running((9, (4, 7), ((own(0, 1, 2, 3),), (copy(0, 1, circle(9)),))))
        running.go(3)
        self.assertEqual([running.did(0, ago) for ago in range(1, 13)], [2, 1, 0] + [4] * 9)
        self.assertEqual([running.did(1, ago) for ago in range(1, 13)], [2, 1, 5] + [7] * 9)

    def test_no_hand(self):
        running = Running(MIXED)
        running.go(20)
        for wrong in (2, 3, -1, -2, 10 ** 18, -10 ** 18, *anything()):
            if type(wrong) is not int or not 0 <= wrong < 2:
                for ago in (1, 12, 0, 13, None, "1"):
                    with self.assertRaises(NoHand):
                        running.did(wrong, ago)
        self.assertEqual(running.now(), 20)

    def test_no_beat(self):
        running = Running(MIXED)
        running.go(20)
        for wrong in (0, 13, -1, -12, 10 ** 18, *anything()):
            if type(wrong) is not int or not 1 <= wrong <= 12:
                with self.assertRaises(NoBeat):
                    running.did(1, wrong)
        self.assertEqual(running.now(), 20)


class Changes(unittest.TestCase):
    def test_as_told_by_hand(self):
        running = Running(OWN)
        running.go(2)
        self.assertIsNone(running.change(TURNED))
        self.assertEqual(running.now(), 2)
        self.assertEqual(running.scene(), (0, 1))
        self.assertEqual([running.go(1) for _ in range(2)], [(0, 2), (0, 2)])
        self.assertEqual(running.go(8), (1, 2))
        self.assertEqual(running.kept()[1], TURNED)

    def test_what_is_copied_is_what_was_done_by_whatever_web(self):
        chance = Random(8)
        for web in (*webs(50, seed=9), MIXED, WIDE):
            running, past, beat = Running(web), before_of(web), 0
            for _ in range(8):
                n = chance.choice((0, 1, 2, 5, 11, 12, 13, 60, 300))
                scenes = gone_on(web, past[-12:], beat, n + 1)
                self.assertEqual(running.go(n), scenes[n])
                past, beat = (*past, *scenes[:n]), beat + n
                web = a_web(chance, own=chance.choice((0.3, 0.05)), like=web)
                running.change(web)
                self.assertEqual(running.kept(), (beat, web, pasts_of(past)))
                self.assertEqual(running.scene(), gone_on(web, past[-12:], beat, 1)[0])

    def test_far_behind_a_change(self):
        chance = Random(10)
        for own_share in (0.3, 0.08, 0) * 5:
            web = a_web(chance, own_share, most_hands=2)
            running, past, beat = Running(web), before_of(web), 0
            for n in (5, 10 ** 6, 10 ** 9 + 7, 3 * 10 ** 14 + 1):
                past, beat = gone_far(web, past, beat, beat + n), beat + n
                running.go(n)
                self.assertEqual(running.kept(), (beat, web, pasts_of(past)))
                web = a_web(chance, own_share, like=web)
                running.change(web)

    def test_as_a_story(self):
        for cut in (1, 30, 10 ** 9):
            running = Running(WIDE_CIRCLE)
            story = [(0, WIDE_CIRCLE)]
            for k, web in enumerate((WIDE, WIDE_CIRCLE, WIDE)):
                running.go(cut + k)
                web = (web[0], WIDE_CIRCLE[1], web[2])
                running.change(web)
                story.append((running.now(), web))
                self.assertEqual(running.scene(), story_scene(tuple(story), running.now()))
            self.assertEqual(running.go(10 ** 14), story_scene(tuple(story), running.now()))

    def test_the_new_webs_rules_go_by_the_beat_itself(self):
        web = alone((own(4, 5, every=3, at=2), own(1, 2, 3)))
        for start in range(12):
            running = Running(alone((own(6, 7, 8),)))
            running.go(start)
            running.change(web)
            for beat in range(start, start + 20):
                self.assertEqual(running.scene(), scene_at(web, beat))
                running.go(1)

    def test_its_before_counts_nothing(self):
        for before in ((0, 2), (1, 1), (2, 0)):
            for start in (0, 1, 5):
                running = Running(OWN)
                running.go(start)
                kept = running.kept()
                running.change((3, before, TURNED[2]))
                self.assertEqual(running.kept(), (start, (3, before, TURNED[2]), kept[2]))
                other = Running(OWN)
                other.go(start)
                other.change(TURNED)
                self.assertEqual([running.go(7) for _ in range(5)], [other.go(7) for _ in range(5)])

    def test_no_web(self):
        running = Running(MIXED)
        running.go(5)
        kept = running.kept()
        for wrong in (*anything(), *near_misses(OWN), list(OWN), OWN[:2], (*OWN, 0), (4, *TURNED[1:])):
            with self.assertRaises(NoWeb) as refused:
                running.change(wrong)
            self.assertIs(type(refused.exception), NoWeb)
            self.assertEqual(running.kept(), kept)

    def test_not_like(self):
        running = Running(MIXED)
        running.go(5)
        kept, scene = running.kept(), running.scene()
        for wrong in (
            (4, (0, 2), OWN[2]), (9, (0, 2), OWN[2]), (3, (0,), OWN[2][:1]), (3, (0, 2, 0), (*OWN[2], OWN[2][0])),
            APART, WIDE,
        ):
            with self.assertRaises(NotLike) as refused:
                running.change(wrong)
            self.assertIs(type(refused.exception), NotLike)
            self.assertEqual((running.kept(), running.scene()), (kept, scene))

    def test_two_know_nothing_of_one_another(self):
        one, other, still = Running(MIXED), Running(MIXED), Running(MIXED)
        one.go(10 ** 9)
        other.go(3)
        other.change(TURNED)
        self.assertEqual(still.kept(), Running(MIXED).kept())
        self.assertEqual(one.kept()[:2], (10 ** 9, MIXED))
        self.assertEqual(one.go(5), scene_at(MIXED, 10 ** 9 + 5))
        self.assertEqual(other.kept()[:2], (3, TURNED))
        self.assertEqual(still.go(3), scene_at(MIXED, 3))

    def test_three_hundred_things_done(self):
        running, past, beat = Running(MIXED), before_of(MIXED), 0
        web = MIXED
        for k in range(150):
            n = (k * 7) % 29
            past = (*past, *gone_on(web, past[-12:], beat, n))
            beat += n
            running.go(n)
            web = (OWN, MIXED, TURNED, STAYS)[k % 4]
            running.change(web)
        self.assertEqual(running.kept(), (beat, web, pasts_of(past)))


class Kept(unittest.TestCase):
    def test_goes_on_so(self):
        chance = Random(11)
        for web in (*webs(40, seed=12), *KINDS):
            running = Running(web)
            for n in (0, 1, 4, 12, 300, 10 ** 9):
                running.go(n)
                state = running.kept()
                again = running_of(state)
                self.assertIs(type(again), Running)
                self.assertEqual(again.kept(), state)
                self.assertEqual(again.now(), running.now())
                self.assertEqual(again.scene(), running.scene())
                self.assertEqual(len(again), len(running))
                for hand in range(len(web[2])):
                    for ago in (1, 12):
                        self.assertEqual(again.did(hand, ago), running.did(hand, ago))
                for more in (1, 20, 10 ** 12):
                    twin = running_of(state)
                    self.assertEqual(twin.go(more), running_of(state).go(more))
                    self.assertEqual(twin.go(more), scene_at(web, state[0] + 2 * more))
                other = a_web(chance, like=web)
                again.change(other)
                past = tuple(zip(*state[2]))[::-1]
                self.assertEqual([again.scene(), again.go(1)], gone_on(other, past, state[0], 2))
                self.assertEqual(running.kept(), state)

    def test_behind_changes(self):
        running = Running(OWN)
        running.go(7)
        running.change(TURNED)
        state = running.kept()
        told = [running.go(1) for _ in range(30)]
        again = running_of(state)
        self.assertEqual([again.go(1) for _ in range(30)], told)
        self.assertEqual(again.kept(), running.kept())

    def test_alike_states_do_alike_however_they_were_come_to(self):
        # One stood still from beat 100 on, the other one was put there.
        one = Running(MIXED)
        one.go(100)
        one.change(STAYS)
        one.go(50)
        one.change(TURNED)
        doings = story_scene(((0, MIXED), (100, STAYS)), 140)
        other = running_of((150, TURNED, tuple((doing,) * 12 for doing in doings)))
        self.assertEqual(one.kept(), other.kept())
        for n in (0, 1, 40, 10 ** 9):
            self.assertEqual(one.go(n), other.go(n))
            self.assertEqual(one.kept(), other.kept())
        one.change(STAYS)
        other.change(STAYS)
        self.assertEqual(one.go(9), other.go(9))

    def test_of_any_pasts(self):
        # Also of pasts that the web itself never comes to, and at beat 0.
        chance = Random(13)
        for web in (*webs(30, seed=14), MIXED):
            for beat in (0, 3, 10 ** 9, LAST):
                pasts = tuple(tuple(chance.randrange(web[0]) for _ in range(12)) for _ in web[2])
                running = running_of((beat, web, pasts))
                self.assertEqual(running.kept(), (beat, web, pasts))
                self.assertEqual([running.did(0, ago) for ago in range(1, 13)], list(pasts[0]))
                past = tuple(zip(*pasts))[::-1]
                self.assertEqual(running.scene(), gone_on(web, past, beat, 1)[0])
                if beat < LAST:
                    self.assertEqual(running.go(100), gone_on(web, past, beat, 101)[100])

    def test_the_last_beat(self):
        state = (LAST, OWN, ((0,) * 12, (1,) * 12))
        self.assertEqual(running_of(state).scene(), scene_at(OWN, LAST))
        with self.assertRaises(Late) as refused:
            running_of(state).go(1)
        self.assertEqual(refused.exception.at, LAST + 1)

    def test_two_of_one_state(self):
        state = Running(MIXED).kept()
        one, other = running_of(state), running_of(state)
        one.go(7)
        one.change(OWN)
        self.assertEqual(other.kept(), state)
        self.assertEqual(state, Running(MIXED).kept())

    def test_no_state(self):
        beat, web, pasts = good = (5, OWN, ((0,) * 12, (1,) * 11 + (2,)))
        self.assertEqual(running_of(good).kept(), good)
        wrongs = [
            (beat, web), (*good, 0), list(good), (beat, pasts, web), (web, beat, pasts),
            (-1, web, pasts), (LAST + 1, web, pasts), (10 ** 18, web, pasts), (True, web, pasts), (False, web, pasts),
            (beat, web[:2], pasts), (beat, (2, *web[1:]), pasts), (beat, web, pasts[:1]), (beat, web, (*pasts, pasts[0])),
            (beat, web, ()), (beat, web, list(pasts)), (beat, web, (pasts[0], list(pasts[1]))),
            (beat, web, (pasts[0], (1,) * 11)), (beat, web, (pasts[0], (1,) * 13)), (beat, web, (pasts[0], ())),
            (beat, web, (pasts[0], (3,) + (1,) * 11)), (beat, web, (pasts[0], (-1,) + (1,) * 11)),
            (beat, web, (pasts[0], (True,) + (1,) * 11)), (beat, web, (pasts[0], (None,) + (1,) * 11)),
            (beat, web, pasts[0]), (beat, (*web[:2], web[2][:1]), pasts),
        ]
        wrongs += [*anything(), *near_misses(good)]
        for thing in anything():
            wrongs += [(beat, thing, pasts), (beat, web, thing), (beat, web, (thing, pasts[1]))]
            if type(thing) is not int:
                wrongs += [(thing, web, pasts), (beat, web, ((thing,) + (0,) * 11, pasts[1]))]
        for wrong in wrongs:
            with self.assertRaises(NoState) as refused:
                running_of(wrong)
            self.assertIs(type(refused.exception), NoState)
            self.assertIsInstance(refused.exception, HandError)

    def test_states_of_webs_without_copies(self):
        running = Running(NO_COPIES)
        running.go(7)
        self.assertEqual(running.kept(), (7, NO_COPIES, pasts_of((*before_of(NO_COPIES), *scenes_of(NO_COPIES, 7)))))


if __name__ == "__main__":
    unittest.main()
