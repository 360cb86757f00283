"""Running hands: a web that goes on, and may be changed on its way."""

from agohands.errors import Late, NoBeat, NoHand, NoState, NotLike, NoWeb
from agohands.kinds import is_from, is_from_to, is_tuple
from agohands.leaps import Leaps
from agohands.rows import row_of
from agohands.turns import are_doings
from agohands.webs import FARTHEST_COPY, is_web

LAST_RUNNING = 10 ** 15


class Running:
    """Hands that go on by a web, at beat 0 at first."""

    def __init__(self, web):
        self._begin(web, 0, [web[1]] * FARTHEST_COPY)

    def _begin(self, web, beat, past):
        """Stand at the beat, behind these last scenes, the latest last."""
        self._web = web
        self._leaps = Leaps(web)
        self._beat = beat
        self._past = past

    def __len__(self):
        return len(self._web[2])

    def go(self, n):
        """Go on n beats; the scene at the new beat."""
        if not is_from(n, 0):
            raise NoBeat("it is no number of beats from 0 on")
        at = self._beat + n
        if at > LAST_RUNNING:
            raise Late(at)
        self._past = self._leaps.on(self._past, self._beat, n)
        self._beat = at
        return self.scene()

    def change(self, web):
        """Have another web go from the beat on."""
        if not is_web(web):
            raise NoWeb("it is no web")
        if web[0] != self._web[0] or len(web[2]) != len(self):
            raise NotLike("the webs have unlike many doings or hands")
        self._begin(web, self._beat, self._past)

    def scene(self):
        """The scene at the beat."""
        return self._leaps.going.on(self._past, self._beat, 1)[0]

    def did(self, hand, ago):
        """What the hand did so many beats before the beat."""
        if not is_from_to(hand, 0, len(self) - 1):
            raise NoHand("it is no hand of the web")
        if not is_from_to(ago, 1, FARTHEST_COPY):
            raise NoBeat(f"no beat but the last {FARTHEST_COPY} is told of")
        return self._past[-ago][hand]

    def now(self):
        """The beat."""
        return self._beat

    def kept(self):
        """The state: (beat, web, pasts), the latest doings first."""
        latest_first = self._past[::-1]
        pasts = [tuple(row_of(latest_first, hand)) for hand in range(len(self))]
        return self._beat, self._web, tuple(pasts)


def _is_state(thing):
    """Whether it is a state that a Running may have."""
    if not is_tuple(thing, 3, 3):
        return False
    beat, web, pasts = thing
    if not is_from_to(beat, 0, LAST_RUNNING) or not is_web(web):
        return False
    count = len(web[2])
    if not is_tuple(pasts, count, count):
        return False
    return all([are_doings(web[0], past, FARTHEST_COPY, FARTHEST_COPY) for past in pasts])


def running_of(state):
    """The Running that goes on from the state."""
    if not _is_state(state):
        raise NoState("it is no state of running hands")
    beat, web, pasts = state
    latest_first = list(zip(*pasts))
    running = Running(web)
    running._begin(web, beat, latest_first[::-1])
    return running
