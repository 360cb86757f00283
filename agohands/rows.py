"""Plain rows: what hands do, beat by beat."""

from agohands.webs import clock, most_ago, own_doing, rule_at


class Going:
    """The going on of a web beat by beat, its rules looked up once."""

    def __init__(self, web):
        self.web = web
        self.beats = clock(web)
        self.steps = {}

    def _step(self, hand, rest):
        """(copied hand, ago, turn) by which the hand goes at beats of this rest."""
        rule = self.web[2][hand][rule_at(self.web, hand, rest)]
        what = rule[2]
        if what[0] == "copy":
            return what[1:]
        # An own doing is what the turn that makes all doings into it makes of
        # any doing, so going on need not ask which of the two a rule is.
        return 0, 1, (own_doing(rule, rest),) * self.web[0]

    def steps_at(self, rest):
        """For each hand (copied hand, ago, turn) at beats of this rest."""
        if rest not in self.steps:
            self.steps[rest] = [self._step(hand, rest) for hand in range(len(self.web[2]))]
        return self.steps[rest]

    def on(self, past, beat, count):
        """The scenes at so many beats from the beat on.

        past has the scenes at the beats below, the latest last: at least as
        many as the web's most ago.
        """
        # The first one is there for own doings alone: they too copy something.
        scenes = [self.web[1], *past]
        for now in range(beat, beat + count):
            steps = self.steps_at(now % self.beats)
            scene = tuple([turn[scenes[-ago][copied]] for copied, ago, turn in steps])
            scenes.append(scene)
        return scenes[len(past) + 1:]


def scenes_before(web):
    """As many scenes ahead of beat 0 as the web's rules look back on."""
    return [web[1]] * most_ago(web)


def row_of(scenes, hand):
    """What the hand does at these scenes."""
    return [scene[hand] for scene in scenes]


def plain_rows(web, beat):
    """For each hand the list of what it does at the beats below this one."""
    scenes = Going(web).on(scenes_before(web), 0, beat)
    return [row_of(scenes, hand) for hand in range(len(web[2]))]
