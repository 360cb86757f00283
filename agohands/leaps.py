"""Leaps: going on by many clocks of a web at once."""

from agohands.rows import Going
from agohands.turns import after, staying
from agohands.webs import most_ago


class Leaps:
    """The going on of a web, near and far, from any past.

    Over one whole clock each doing of the last scenes becomes what some turn
    makes of some doing of the scenes that stood in their place. Such a leap
    done twice is a leap of twice as many clocks, so few leaps lead far.
    """

    def __init__(self, web):
        self.going = Going(web)
        # Own doings, too, are told by what they copy, so one scene is needed.
        self.ago = max(most_ago(web), 1)
        # The leap of number k is over 2 to the k-th power many clocks.
        self.leaps = []

    def _one_clock(self):
        """For each doing of the last scenes (number of a doing there, turn), over one clock."""
        many, _, hands = self.going.web
        count = len(hands)
        stays = staying(many)
        scenes = [[(at * count + hand, stays) for hand in range(count)] for at in range(self.ago)]
        for rest in range(self.going.beats):
            scene = []
            for copied, ago, turn in self.going.steps_at(rest):
                number, done = scenes[-ago][copied]
                scene.append((number, after(done, turn)))
            scenes.append(scene)
        return [made for scene in scenes[-self.ago:] for made in scene]

    def _leap(self, power):
        """The leap over 2 to this power many clocks: those below it are there."""
        if power == len(self.leaps):
            if power == 0:
                self.leaps.append(self._one_clock())
            else:
                half = self.leaps[-1]
                self.leaps.append([(half[number][0], after(half[number][1], turn)) for number, turn in half])
        return self.leaps[power]

    def _over(self, scenes, clocks):
        """The last scenes gone on so many clocks, from a beat at which the clock begins."""
        count = len(scenes[0])
        doings = [doing for scene in scenes for doing in scene]
        power = 0
        while clocks > 0:
            leap = self._leap(power)
            if clocks & 1:
                doings = [turn[doings[number]] for number, turn in leap]
            clocks = clocks // 2
            power = power + 1
        return [tuple(doings[at:at + count]) for at in range(0, len(doings), count)]

    def on(self, past, beat, count):
        """The past at so many beats behind the beat: as many scenes as past, the latest last.

        past has the scenes at the beats below the beat: as many as the web's
        most ago, and one at least.
        """
        size = len(past)
        ahead = -beat % self.going.beats
        # What is behind the leap is gone on with beat by beat: all that is told.
        clocks = (count - ahead - size) // self.going.beats
        if clocks > 0:
            past = past + self.going.on(past, beat, ahead)
            past = self._over(past[-self.ago:], clocks)
            leapt = ahead + clocks * self.going.beats
            beat = beat + leapt
            count = count - leapt
        return (past + self.going.on(past, beat, count))[-size:]
