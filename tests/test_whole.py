"""Of promises [1] to [3]: what the whole program tells of one doing, and of for ever, is one."""

import unittest
from random import Random

from agohands.desk import Desk
from agohands.errors import TooLong
from agohands.explains import explaining, fits, left_out
from agohands.far import doing_at, doings_from, scene_at
from agohands.forgets import forgets, hangs_on
from agohands.keeps import kept_copies
from agohands.likeness import first_apart, first_parted, renamed, side_by_side
from agohands.meetings import how_often, kth_doing, times_of
from agohands.papers import round_fault, round_paper, source_fault, source_paper
from agohands.rows import plain_rows
from agohands.running import Running, running_of
from agohands.stories import changed, story_doing, story_scene, story_source
from agohands.texts import read_web, show_web
from agohands.times import is_meant
from agohands.traces import source, trace
from agohands.webs import rule_at
from agohands.windows import hand_round, next_window, scene_of, web_round, window_at
from plain import FAR, KINDS, WIDE, a_web, going, webs

LAST = 10 ** 15


def tellers(web):
    """By name, all that tell the scene at a beat (to 10 ** 15)."""
    hands = range(len(web[2]))
    story = ((0, web), (7, web), (300, web), (10 ** 9, web))
    desk_row = "web " + show_web(web)[:-1].replace("\n", ";")

    def by_running(beat):
        return Running(web).go(beat)

    def by_two_runnings(beat):
        running = Running(web)
        running.go(beat // 2)
        return running_of(running.kept()).go(beat - beat // 2)

    def by_what_a_running_did(beat):
        running = Running(web)
        running.go(min(beat + 12, LAST))
        ago = running.now() - beat
        return running.scene() if ago == 0 else tuple(running.did(hand, ago) for hand in hands)

    def by_desk(beat):
        desk = Desk()
        desk.say(desk_row)
        return tuple(map(int, desk.say(f"go {beat}").split(" ")))

    def by_desk_asked(beat):
        desk = Desk()
        desk.say(desk_row)
        return tuple(int(desk.say(f"at {hand} {beat}")) for hand in hands)

    def by_sources(beat):
        told = []
        for hand in hands:
            begun_by, begun_at, turn, _ = source(web, hand, beat)
            begun = web[1][begun_by] if begun_at < 0 else doing_at(web, begun_by, begun_at)
            told.append(turn[begun])
        return tuple(told)

    def by_story_sources(beat):
        told = []
        for hand in hands:
            begun_by, begun_at, turn, _ = story_source(story, hand, beat)
            told.append(turn[web[1][begun_by] if begun_at < 0 else story_doing(story, begun_by, begun_at)])
        return tuple(told)

    def by_the_window_ahead(beat):
        return scene_at(web, 0) if beat == 0 else scene_of(web, next_window(web, window_at(web, beat - 1)))

    return {
        "doing_at": lambda beat: tuple(doing_at(web, hand, beat) for hand in hands),
        "scene_at": lambda beat: scene_at(web, beat),
        "doings_from": lambda beat: tuple(doings_from(web, hand, max(beat - 5, 0), 6)[min(beat, 5)] for hand in hands),
        "window": lambda beat: scene_of(web, window_at(web, beat)),
        "window ahead": by_the_window_ahead,
        "story": lambda beat: story_scene(story, beat),
        "story doing": lambda beat: tuple(story_doing(story, hand, beat) for hand in hands),
        "story of one": lambda beat: story_scene(((0, web),), beat),
        "running": by_running, "two runnings": by_two_runnings, "did": by_what_a_running_did,
        "desk": by_desk, "desk asked": by_desk_asked, "sources": by_sources, "story sources": by_story_sources,
        "paper": lambda beat: tuple(source_paper(web, hand, beat)[3] for hand in hands),
        "text": lambda beat: scene_at(read_web(show_web(web)), beat),
        "side by side": lambda beat: scene_at(
            side_by_side(web, web) if len(hands) <= 3 else web, beat)[-len(hands):],
    }


class OneDoing(unittest.TestCase):
    def test_near(self):
        for web in (*webs(12, seed=1), *KINDS):
            rows = going(web, 500)
            for name, teller in tellers(web).items():
                for beat in (0, 1, 6, 7, 13, 99, 241, 300, 487):
                    self.assertEqual(teller(beat), tuple(row[beat] for row in rows), (name, beat))
            self.assertEqual(plain_rows(web, 500), rows)

    def test_far(self):
        for web in (*webs(12, seed=2), *KINDS):
            for beat in (10 ** 9, 123456789012, LAST - 1, LAST):
                told = {name: teller(beat) for name, teller in tellers(web).items()}
                self.assertEqual(set(told.values()), {scene_at(web, beat)}, told)

    def test_to_the_last_beat(self):
        for web in (*webs(12, seed=3), *KINDS):
            for beat in (10 ** 17, FAR - 1, FAR):
                told = {
                    name: teller(beat) for name, teller in tellers(web).items()
                    if name not in ("running", "two runnings", "did", "desk")
                }
                self.assertEqual(set(told.values()), {scene_at(web, beat)}, told)

    def test_traces_and_papers_lead_to_one_source(self):
        for web in (*webs(24, seed=4), *KINDS):
            for beat in (0, 11, 250, 1999):
                hand = beat % len(web[2])
                way = trace(web, hand, beat, most=5000)
                begun_by, begun_at, _, copies = source(web, hand, beat)
                self.assertEqual((way[-1][0], max(way[-1][1], -1), len(way) - 1), (begun_by, begun_at, copies))
                paper = source_paper(web, hand, beat)
                rows = [row for part, times in paper[5] for _ in range(times) for row in part]
                self.assertEqual(rows, [(by, rule_at(web, by, at)) for by, at in way[:-1]])
                self.assertEqual(paper[4], source(web, hand, beat))
                self.assertIsNone(source_fault(paper))


class ForEver(unittest.TestCase):
    def round_of(self, web):
        try:
            return web_round(web)
        except TooLong:
            return None

    def test_rounds_times_counts_and_kept_copies_hold_at_far_beats(self):
        chance = Random(5)
        for web in (*webs(40, seed=6), *KINDS):
            told = self.round_of(web)
            if told is None:
                continue
            first, again = told
            self.assertIsNone(round_fault(round_paper(web, 0)))
            hand = chance.randrange(len(web[2]))
            for beat in (first, first + 1, chance.randrange(10 ** 17), FAR - again):
                if beat >= first:
                    self.assertEqual(scene_at(web, beat), scene_at(web, beat + again))
                    self.assertEqual(window_at(web, beat), window_at(web, beat + again))
                    its_first, its_again = hand_round(web, hand)
                    self.assertEqual(doing_at(web, hand, beat), doing_at(web, hand, beat + its_again))
                doing = doing_at(web, hand, beat)
                self.assertIs(is_meant(times_of(web, ("does", hand, doing)), beat), True)
                behind = how_often(web, hand, beat + 1)
                ahead = how_often(web, hand, beat)
                ahead[doing] += 1
                self.assertEqual(behind, ahead)
                self.assertEqual(sum(ahead), beat + 1)
                self.assertEqual(kth_doing(web, hand, doing, behind[doing] - 1), beat)
                for other, ago, turn in kept_copies(web, hand):
                    if beat >= ago:
                        self.assertEqual(turn[doing_at(web, other, beat - ago)], doing)

    def test_what_is_forgotten_is_so_whatever_was_before(self):
        chance = Random(7)
        for web in (*webs(60, seed=8), WIDE):
            other = (web[0], tuple(chance.randrange(web[0]) for _ in web[2]), web[2])
            for hand in range(len(web[2])):
                told = forgets(web, hand)
                self.assertEqual(forgets(other, hand), told)
                if told is not None:
                    for beat in (told, told + 1, told + 77, FAR // 3, FAR):
                        self.assertIsNone(hangs_on(web, hand, beat))
                        self.assertEqual(doing_at(web, hand, beat), doing_at(other, hand, beat))
                    if self.round_of(web) and self.round_of(other):
                        apart = first_apart(web, hand, other, hand)
                        self.assertTrue(apart is None or apart < told)

    def test_what_explains_does_what_was_seen_and_is_kept(self):
        for web in webs(60, seed=9):
            single = (*web[:2], tuple(rules[-1:] for rules in web[2]))
            seen = (web[0], web[1], tuple(map(tuple, going(single, 60))))
            told = explaining(seen)
            if told is not None:
                self.assertEqual(plain_rows(told, 60), [list(row) for row in seen[2]])
                for hand, ((_, _, what),) in enumerate(told[2]):
                    self.assertEqual(left_out(seen, hand)[what[1:3]], 0)
                    self.assertEqual(fits(seen, hand)[0][:2], what[1:3])
                    if self.round_of(told):
                        self.assertIn(what[1:3], [part[:2] for part in kept_copies(told, hand)])

    def test_a_changed_story_is_a_changed_running(self):
        chance = Random(10)
        for web in webs(30, seed=11):
            running, story = Running(web), ((0, web),)
            for _ in range(5):
                running.go(chance.choice((1, 5, 40, 10 ** 9)))
                web = a_web(chance, own=0.1, like=web)
                running.change(web)
                story = changed(story, running.now(), web)
                self.assertEqual(running.scene(), story_scene(story, running.now()))
            self.assertEqual(running.go(10 ** 14), story_scene(story, running.now()))

    def test_what_is_kept_is_gone_on_with_by_webs_of_any_name(self):
        for web in (*webs(20, seed=12), *KINDS):
            count, many = len(web[2]), web[0]
            order, turn = list(range(count))[::-1], tuple(range(many))[::-1]
            other = renamed(web, order, turn)
            one, its = Running(web), Running(other)
            for n in (0, 3, 100, 10 ** 12):
                scene = one.go(n)
                self.assertEqual(its.go(n), tuple(turn[scene[hand]] for hand in order))
            if self.round_of(web):
                self.assertIsNone(first_parted(web, read_web(show_web(web))))


if __name__ == "__main__":
    unittest.main()
