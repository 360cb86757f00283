"""From when on webs and rows go round."""

from agohands.errors import TooLong
from agohands.rows import Going, scenes_before
from agohands.webs import clock, most_ago

# At these beats it is looked whether the window was there before: most webs go
# round early, and need not be gone on with. The last one is the last in time.
LOOKS = (160, 320, 640, 1250, 2500, 5000)


def _again(web, scenes, ago):
    """Behind how many beats the last window was there before, or None.

    The window at a beat is, but for its rest, as many scenes as the most ago
    from the item of the beat's number on.
    """
    beats = clock(web)
    at = len(scenes) - ago
    last = scenes[at:]
    for start in range(at - beats, -1, -beats):
        if scenes[start:start + ago] == last:
            return at - start
    return None


def going_round(web):
    """(scenes, first, round): the web's round, and the scenes below first + round.

    What window comes next hangs on the window alone. So once a window was
    there before, it comes again behind as many beats for ever, and windows
    part below first only.
    """
    ago = most_ago(web)
    going = Going(web)
    scenes = scenes_before(web)
    for last in LOOKS:
        beat = len(scenes) - ago
        scenes = scenes + going.on(scenes[beat:], beat, last - beat)
        again = _again(web, scenes, ago)
        if again is not None:
            first = _first(scenes, again)
            return scenes[ago:ago + first + again], first, again
    raise TooLong(f"no window comes again within {LOOKS[-1]} beats")


def _first(scenes, again):
    """The least number from which on each of the scenes comes again behind so many."""
    first = len(scenes) - again
    while first > 0 and scenes[first - 1] == scenes[first - 1 + again]:
        first = first - 1
    return first


def _primes(number):
    """The primes that make the number, each as often as it is in it."""
    primes = []
    prime = 2
    while prime * prime <= number:
        if number % prime == 0:
            primes.append(prime)
            number = number // prime
        else:
            prime = prime + 1
    if number > 1:
        primes.append(number)
    return primes


def least_round(row, first, again):
    """The least (first, round) of a row that from first on comes again behind so many beats.

    The row has the items below first + round. Of all rounds that part again
    without rest the least one parts each other, so taking prime by prime
    away leads to it.
    """
    circle = row[first:]
    for prime in _primes(again):
        part = again // prime
        if circle[part:again] == circle[:again - part]:
            again = part
    return _first(row, again), again
