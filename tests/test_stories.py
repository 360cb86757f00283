"""Of promises [21] and [22]: stories, webs that go one behind the other."""

import unittest
from random import Random

from agohands.errors import HandError, NotLike
from agohands.far import doing_at, scene_at
from agohands.stories import changed, is_story, story_doing, story_scene, story_source
from agohands.traces import source
from plain import (
    APART, FAR, KINDS, MIXED, WIDE_CIRCLE, a_web, all_whole, alone, circle, copy, own, rule_of, stories, story_far,
    story_going, story_leads_back, web_of,
)
from things import anything, near_misses

# Webs of many 3, of two hands that did 0 and 2 before.
OWN = (3, (0, 2), ((own(1, 2),), (own(0),)))
TURNED = (3, (0, 2), ((copy(1, 12, (1, 2, 0)),), (copy(0, 1, (2, 0, 1)),)))
STAYS = (3, (0, 2), ((copy(0, 1, range(3)),), (copy(1, 1, range(3)),)))
THREE = ((0, MIXED), (5, TURNED), (7, OWN))
SIX = tuple((beat, (MIXED, OWN, TURNED)[k % 3]) for k, beat in enumerate((0, 1, 2, 30, 10 ** 9, FAR)))


class IsStory(unittest.TestCase):
    def test_of_one_to_six_parts(self):
        for many in range(1, 7):
            self.assertIs(is_story(SIX[:many]), True)
        for told in stories(60, seed=1):
            self.assertIs(is_story(told), True)
        for web in KINDS:
            self.assertIs(is_story(((0, web), (1, web))), True)

    def test_of_none_and_of_seven(self):
        self.assertIs(is_story(()), False)
        self.assertIs(is_story((*SIX[:5], (FAR - 1, OWN), SIX[5])), False)
        self.assertIs(is_story(tuple((beat, OWN) for beat in range(6))), True)
        self.assertIs(is_story(tuple((beat, OWN) for beat in range(7))), False)

    def test_beats_rise(self):
        self.assertIs(is_story(((0, OWN), (1, OWN), (2, OWN))), True)
        for beats in ((0, 0), (0, 1, 1), (0, 5, 4), (0, 1, 2, 3, 4, 4), (0, 2, 1, 3), (0, -1), (0, FAR, FAR)):
            self.assertIs(is_story(tuple((beat, OWN) for beat in beats)), False, beats)

    def test_the_first_beat_is_zero(self):
        for beats in ((1,), (-1,), (-1, 0), (1, 2), (FAR,), (-FAR, 0, 1)):
            self.assertIs(is_story(tuple((beat, OWN) for beat in beats)), False, beats)

    def test_the_last_beat(self):
        self.assertIs(is_story(((0, OWN), (FAR, OWN))), True)
        for beat in (FAR + 1, 10 ** 40):
            self.assertIs(is_story(((0, OWN), (beat, OWN))), False)

    def test_truths_are_no_beats(self):
        for beats in ((False,), (False, 1), (0, True), (0, True, 2), (0, 1, True)):
            self.assertIs(is_story(tuple((beat, OWN) for beat in beats)), False, beats)

    def test_all_have_like_many_and_so_many_hands(self):
        for other in (
            (4, (0, 2), OWN[2]), (9, (0, 2), OWN[2]), (3, (0,), OWN[2][:1]), (3, (0, 2, 0), (*OWN[2], OWN[2][0])),
        ):
            self.assertIs(is_story(((0, other),)), True)
            for told in (((0, OWN), (1, other)), ((0, other), (1, OWN)), ((0, OWN), (1, OWN), (2, other))):
                self.assertIs(is_story(told), False)

    def test_all_have_the_firsts_before(self):
        for before in ((0, 2), (0, 0), (2, 0), (1, 1)):
            web = (3, before, OWN[2])
            self.assertIs(is_story(((0, web),)), True)
            self.assertIs(is_story(((0, web), (1, web))), True)
            self.assertIs(is_story(((0, OWN), (1, web))), before == (0, 2))
            self.assertIs(is_story(((0, OWN), (1, TURNED), (9, web))), before == (0, 2))
            self.assertIs(is_story(((0, web), (1, OWN))), before == (0, 2))

    def test_webs_that_are_none(self):
        for wrong in ((3, (0, 2), ()), (3, (0, 2), OWN[2][:1]), (2, (0, 2), OWN[2]), (3, (0, 3), OWN[2]), OWN[2]):
            for told in (((0, wrong),), ((0, OWN), (1, wrong)), ((0, OWN), (1, OWN), (2, wrong))):
                self.assertIs(is_story(told), False)

    def test_lists_for_tuples(self):
        self.assertIs(is_story(list(THREE)), False)
        self.assertIs(is_story(([0, OWN],)), False)
        self.assertIs(is_story(((0, OWN), [1, OWN])), False)
        self.assertIs(is_story(((0, list(OWN)),)), False)

    def test_parts_of_other_sizes(self):
        for part in ((), (1,), (1, OWN, OWN), (1, OWN, 0), (OWN, 1), OWN, 1):
            self.assertIs(is_story(((0, OWN), part)), False)
            self.assertIs(is_story((part,)), False)

    def test_of_anything(self):
        for thing in anything():
            for told in (thing, (thing,), ((0, thing),), ((0, OWN), thing), ((0, OWN), (1, thing))):
                self.assertIs(is_story(told), False)
        for thing in anything():
            if type(thing) is not int:
                for told in (((thing, OWN),), ((thing, OWN), (1, OWN)), ((0, OWN), (thing, OWN))):
                    self.assertIs(is_story(told), False)

    def test_near_misses(self):
        for thing in near_misses(THREE):
            self.assertIs(is_story(thing), False)


class Doings(unittest.TestCase):
    def test_as_told_by_hand(self):
        # From beat 2 on hand 0 does what hand 1 did twelve beats ago, and so on.
        story = ((0, OWN), (2, TURNED))
        self.assertEqual([story_scene(story, beat) for beat in range(5)], [(1, 0), (2, 0), (0, 1), (0, 2), (0, 2)])
        self.assertEqual([story_scene(story, beat) for beat in (12, 13, 14, 15)], [(1, 2), (1, 0), (2, 0), (0, 1)])

    def test_as_gone_on_beat_by_beat(self):
        for story in (*stories(70, seed=2), THREE, SIX):
            scenes = story_going(story, 320)
            for beat in (*range(0, 320, 7), *(b + k for b, _ in story for k in (-1, 0, 1, 12) if 0 <= b + k < 320)):
                self.assertEqual(story_scene(story, beat), scenes[beat])
                hand = beat % len(scenes[0])
                self.assertEqual(story_doing(story, hand, beat), scenes[beat][hand])

    def test_parts_short_and_side_by_side(self):
        chance = Random(3)
        for _ in range(30):
            first = a_web(chance, own=0.1)
            story = ((0, first), *((beat, a_web(chance, own=0.1, like=first)) for beat in (1, 2, 4, 7, 11)))
            scenes = story_going(story, 60)
            self.assertEqual([story_scene(story, beat) for beat in range(60)], scenes)

    def test_what_is_told(self):
        for story in stories(10, seed=4):
            scene = story_scene(story, 99)
            self.assertIs(type(scene), tuple)
            self.assertTrue(all_whole(scene))
            self.assertTrue(all_whole(story_source(story, 0, 99)))
            self.assertIs(type(story_source(story, 0, 99)), tuple)
            self.assertIs(type(story_doing(story, 0, 99)), int)

    def test_rules_go_by_the_beat_itself(self):
        web = alone((own(4, 5, every=3, at=2), own(1, 2, 3)), many=9)
        other = alone((own(6, 7, 8),), many=9)
        for start in range(1, 12):
            story = ((0, other), (start, web))
            for beat in range(start, start + 40):
                self.assertEqual(story_doing(story, 0, beat), doing_at(web, 0, beat))

    def test_far_beats(self):
        chance = Random(5)
        for own_share in (0.3, 0.08, 0) * 6:
            first = a_web(chance, own_share, most_hands=2)
            beats = sorted({chance.choice((50, 10 ** 6, 10 ** 12, FAR - 40)) + chance.randrange(25) for _ in range(5)})
            story = ((0, first), *((beat, a_web(chance, own_share, like=first)) for beat in beats))
            self.assertTrue(is_story(story))
            for last in (10 ** 6 + 7, 10 ** 12 + 3, 10 ** 17, FAR - 17, FAR - 5, FAR, *(beat + 1 for beat in beats)):
                told = story_far(story, last)
                for ago in (0, 1, 2, 11):
                    self.assertEqual(story_scene(story, last - ago), told[-1 - ago])

    def test_far_beats_of_webs_that_go_round_late_or_never(self):
        # What is done goes on by like turns whatever web does it.
        moved = alone((copy(0, 10, circle(5)),), (copy(1, 11, circle(9)),), (copy(2, 7, circle(7)),))
        self.assertEqual(moved, APART)
        for cut in (3, 10 ** 9 + 1, 10 ** 17, FAR - 3, FAR):
            story = ((0, APART), (cut, APART))
            for beat in (cut - 1, cut, FAR - 1, FAR):
                self.assertEqual(story_scene(story, beat), scene_at(APART, beat))

    def test_at_the_last_beat_a_part_begins(self):
        story = ((0, TURNED), (FAR, OWN))
        self.assertEqual(story_scene(story, FAR), scene_at(OWN, FAR))
        self.assertEqual(story_scene(story, FAR - 1), scene_at(TURNED, FAR - 1))

    def test_all_parts_the_same_web(self):
        for web in KINDS:
            story = tuple((beat, web) for beat in (0, 1, 13, 500, 10 ** 9, FAR - 7))
            for beat in (0, 5, 13, 14, 777, 10 ** 9 + 1, FAR - 8, FAR):
                self.assertEqual(story_scene(story, beat), scene_at(web, beat))
                for hand in range(len(web[2])):
                    self.assertEqual(story_source(story, hand, beat), source(web, hand, beat))

    def test_a_part_that_stays_keeps_what_was_done(self):
        story = ((0, MIXED), (100, STAYS), (FAR - 1, MIXED))
        for beat in (100, 101, 10 ** 17, FAR - 2):
            self.assertEqual(story_scene(story, beat), scene_at(MIXED, 99))


class Sources(unittest.TestCase):
    def test_as_told_by_hand(self):
        story = ((0, OWN), (2, TURNED))
        self.assertEqual(story_source(story, 0, 1), (0, 1, (0, 1, 2), 0))
        self.assertEqual(story_source(story, 1, 2), (0, 1, (2, 0, 1), 1))
        self.assertEqual(story_source(story, 0, 2), (1, -1, (1, 2, 0), 1))
        self.assertEqual(story_source(story, 0, 14), (0, 1, (0, 1, 2), 2))
        self.assertEqual(story_source(story, 1, 4), (1, -1, (0, 1, 2), 2))

    def test_as_led_back_rule_by_rule(self):
        for story in (*stories(70, seed=6), THREE, SIX):
            for beat in (0, 1, 2, 11, 12, 40, 77, 100, 199, 200, 201, 333, 1000):
                for hand in range(len(story[0][1][2])):
                    told = story_source(story, hand, beat)
                    self.assertEqual(told, story_leads_back(story, hand, beat))

    def test_below_zero_is_minus_one(self):
        for ago in range(1, 13):
            web = alone((copy(0, ago, circle(3)),))
            story = ((0, web), (3, alone((copy(0, 12, circle(3)),))))
            for beat in range(14):
                self.assertEqual(story_source(story, 0, beat)[:2], (0, -1))

    def assert_behind_what_it_copies(self, story, hand, beat):
        """Its source is that of what it copies, one copy on."""
        web = web_of(story, beat)
        told = story_source(story, hand, beat)
        what = rule_of(web, hand, beat)[2]
        if what[0] == "own":
            self.assertEqual(told, (hand, beat, tuple(range(web[0])), 0))
            return
        _, copied, ago, turn = what
        begun_by, begun_at, done, copies = story_source(story, copied, beat - ago)
        self.assertEqual(told, (begun_by, begun_at, tuple(turn[doing] for doing in done), copies + 1))

    def test_far_sources_stand_behind_one_another(self):
        for story in (
            *stories(30, seed=7, most_beat=FAR), SIX,
            ((0, WIDE_CIRCLE), (10 ** 17 + 1, WIDE_CIRCLE)), ((0, APART), (10 ** 9, APART), (FAR - 30, APART)),
        ):
            near = [start + k for start, _ in story[1:] for k in (0, 1, 12, 13, 40, 10 ** 6)]
            for beat in (*near, FAR // 3, FAR - 1, FAR):
                if beat <= FAR:
                    for hand in range(len(story[0][1][2])):
                        self.assert_behind_what_it_copies(story, hand, beat)

    def test_far_sources_lead_on_to_the_doing(self):
        for story in (*stories(30, seed=8, most_beat=FAR), SIX, ((0, WIDE_CIRCLE), (10 ** 17 + 1, WIDE_CIRCLE))):
            for beat in (10 ** 15, FAR // 2, FAR):
                for hand in range(len(story[0][1][2])):
                    begun_by, begun_at, turn, _ = story_source(story, hand, beat)
                    begun = story[0][1][1][begun_by]
                    if begun_at >= 0:
                        begun = story_doing(story, begun_by, begun_at)
                        rule = rule_of(web_of(story, begun_at), begun_by, begun_at)
                        self.assertEqual(rule[2][0], "own")
                    self.assertEqual(story_doing(story, hand, beat), turn[begun])

    def test_far_copies_counted(self):
        # One beat ago below the cut, from there on three beats ago.
        one, three = alone((copy(0, 1, circle(9)),)), alone((copy(0, 3, circle(9)),))
        for cut in (1, 2, 3, 4, 10, 10 ** 9, FAR - 1, FAR):
            story = ((0, one), (cut, three))
            for beat in (cut, cut + 1, cut + 5, 10 ** 17, FAR):
                if cut <= beat <= FAR:
                    by_three = (beat - cut) // 3 + 1
                    begun_at = beat - 3 * by_three
                    copies = by_three + max(begun_at + 1, 0)
                    turn = tuple((doing + copies) % 9 for doing in range(9))
                    self.assertEqual(story_source(story, 0, beat), (0, -1, turn, copies))
                    self.assertEqual(story_doing(story, 0, beat), copies % 9)

    def test_led_back_past_a_short_part(self):
        # The part of beats 5 to 9 is never copied from beat 10 on for a while.
        far = alone((copy(0, 12, circle(9)),))
        story = ((0, alone((own(0, 1, 2, 3, 4, 5),))), (5, alone((own(8),))), (10, far))
        self.assertEqual(story_source(story, 0, 16), (0, 4, circle(9), 1))
        self.assertEqual(story_source(story, 0, 17), (0, 5, circle(9), 1))
        self.assertEqual(story_source(story, 0, 10), (0, -1, circle(9), 1))
        self.assertEqual([story_doing(story, 0, beat) for beat in (10, 15, 16, 17, 21)], [1, 4, 5, 0, 0])


class Changed(unittest.TestCase):
    def test_parts_from_the_beat_on_fall_away(self):
        story = ((0, MIXED), (5, OWN), (9, TURNED))
        for beat, kept in ((1, 1), (5, 1), (6, 2), (9, 2), (10, 3), (FAR, 3)):
            told = changed(story, beat, STAYS)
            self.assertEqual(told, (*story[:kept], (beat, STAYS)))
            self.assertIs(is_story(told), True)

    def test_at_beat_zero(self):
        for story in (((0, MIXED),), THREE, SIX):
            self.assertEqual(changed(story, 0, OWN), ((0, OWN),))

    def test_the_same_web_again(self):
        self.assertEqual(changed(((0, OWN),), 3, OWN), ((0, OWN), (3, OWN)))
        self.assertEqual(changed(((0, OWN),), 0, OWN), ((0, OWN),))

    def test_up_to_the_beat_all_is_as_it_was(self):
        chance = Random(9)
        for story in stories(40, seed=10):
            if len(story) == 6:
                story = story[:5]
            beat = chance.randrange(250)
            web = a_web(chance, like=story[0][1])
            told = changed(story, beat, web)
            ahead, behind = story_going(story, beat), story_going(told, beat + 30)
            self.assertEqual(behind[:beat], ahead)
            for then in {0, beat // 2, beat - 1} - {-1}:
                self.assertEqual(story_scene(told, then), story_scene(story, then))
            for then in range(beat, beat + 30, 3):
                self.assertEqual(story_scene(told, then), behind[then])

    def test_the_story_handed_in_stays(self):
        story = ((0, MIXED), (5, OWN), (9, TURNED))
        told = changed(story, 4, STAYS)
        self.assertEqual(story, ((0, MIXED), (5, OWN), (9, TURNED)))
        self.assertIs(type(told), tuple)
        self.assertEqual(changed(story, 4, STAYS), told)

    def assert_not_like(self, story, beat, web):
        with self.assertRaises(NotLike) as refused:
            changed(story, beat, web)
        self.assertIs(type(refused.exception), NotLike)
        self.assertIsInstance(refused.exception, HandError)

    def test_no_web(self):
        for thing in (*anything(), *near_misses(OWN), THREE, ((0, OWN),), list(OWN)):
            self.assert_not_like(((0, OWN),), 3, thing)
        for thing in anything():
            self.assert_not_like(THREE, 0, thing)

    def test_one_that_does_not_fit(self):
        others = (
            (4, (0, 2), OWN[2]), (3, (0,), OWN[2][:1]), (3, (0, 2, 0), (*OWN[2], OWN[2][0])),
            (3, (0, 0), OWN[2]), (3, (2, 0), OWN[2]), (3, (1, 2), OWN[2]), APART,
        )
        for story in (((0, OWN),), THREE, SIX[:5]):
            for beat in (0, 1, 7, FAR):
                for web in others:
                    self.assert_not_like(story, beat, web)

    def test_a_seventh_part(self):
        story = tuple((beat, OWN) for beat in (0, 2, 4, 6, 8, 10))
        for beat in (11, 12, FAR):
            self.assert_not_like(story, beat, TURNED)
            self.assertEqual(changed(story[:5], beat, TURNED), (*story[:5], (beat, TURNED)))
        for beat, kept in ((10, 5), (9, 5), (8, 4), (1, 1), (0, 0)):
            self.assertEqual(changed(story, beat, TURNED), (*story[:kept], (beat, TURNED)))


if __name__ == "__main__":
    unittest.main()
