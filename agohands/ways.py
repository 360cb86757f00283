"""The ways by which doings lead back to where they began."""

from agohands.turns import after, often, power, staying
from agohands.webs import clock, own_doing, rule_at


def copies_in(parts):
    """How many copies there are in all parts of a way."""
    return sum([len(rows) * times for rows, times in parts])


class Ways:
    """The ways back of one web's doings.

    A row (hand, rule) of a way is a copy rule by which a hand goes. Which row
    stands behind another hangs on the hand and on the beat's rest by the
    clock alone. So a way goes round as soon as the two come again, and is
    followed as a few parts (rows, times): these rows, so many times over.
    """

    def __init__(self, web):
        self.web = web
        self.beats = clock(web)
        self.rules = {}

    def rule(self, hand, rest):
        """The number of the rule by which the hand goes at beats of this rest."""
        if (hand, rest) not in self.rules:
            self.rules[hand, rest] = rule_at(self.web, hand, rest)
        return self.rules[hand, rest]

    def back(self, hand, beat, floor=0):
        """(parts, hand, beat): the parts of the way, the youngest first, and its end.

        At the end the hand goes by an own rule, or the beat is below the floor.
        """
        rows = []
        met = {}
        while beat >= floor:
            place = (hand, beat % self.beats)
            if place in met:
                return self._round(rows, met[place], beat, floor)
            number = self.rule(hand, place[1])
            what = self.web[2][hand][number][2]
            if what[0] == "own":
                break
            met[place] = len(rows)
            rows.append((hand, number))
            hand = what[1]
            beat = beat - what[2]
        return [(rows, 1)], hand, beat

    def _round(self, rows, start, beat, floor):
        """As back, where the row of number start comes again at the beat."""
        circle = rows[start:]
        agos = [self._what(row)[2] for row in circle]
        beats = sum(agos)
        # Once more is whole where the circle's last row, which stands its own
        # ago before the circle's end, is not below the floor.
        more = (beat - floor + agos[-1]) // beats
        beat = beat - more * beats
        left = []
        while beat >= floor:
            beat = beat - agos[len(left)]
            left.append(circle[len(left)])
        return [(rows[:start], 1), (circle, 1 + more), (left, 1)], circle[len(left)][0], beat

    def _what(self, row):
        hand, number = row
        return self.web[2][hand][number][2]

    def turn(self, rows):
        """The turn that the rows' turns make together, the eldest first."""
        turn = staying(self.web[0])
        for row in rows:
            turn = after(self._what(row)[3], turn)
        return turn

    def turn_of_all(self, parts):
        """The turn that all parts make together, the eldest first."""
        turn = staying(self.web[0])
        for rows, times in parts:
            turn = after(power(self.turn(rows), times), turn)
        return turn

    def begun(self, hand, beat):
        """What is done at the end of a way: by an own rule, or before."""
        if beat < 0:
            return self.web[1][hand]
        number = self.rule(hand, beat % self.beats)
        return own_doing(self.web[2][hand][number], beat)

    def led_on(self, parts, doing):
        """What all parts make of the doing, the eldest first."""
        for rows, times in reversed(parts):
            doing = self._changed(rows, times, doing)
        return doing

    def doing(self, hand, beat):
        """What the hand does at the beat, or did where that is below 0."""
        parts, begun_by, begun_at = self.back(hand, beat)
        return self.led_on(parts, self.begun(begun_by, begun_at))

    def _changed(self, rows, times, doing):
        """What the rows, so many times over, make of the doing."""
        if times > 1:
            return often(self.turn(rows), doing, times)
        for row in reversed(rows):
            turn = self._what(row)[3]
            doing = turn[doing]
        return doing
