"""From when on webs and rows go round."""

from agohands.errors import TooLong
from agohands.rows import scenes_before, scenes_on
from agohands.webs import clock, most_ago

MOST_BEATS = 5000


def _again(web, scenes):
    """Behind how many beats the window at the last beat was there before.

    The window at a beat is, but for its rest, these scenes from the item of
    the beat's number on, as many as the most ago.
    """
    ago = most_ago(web)
    last = scenes[MOST_BEATS:]
    beats = clock(web)
    for beats_ago in range(beats, MOST_BEATS + 1, beats):
        start = MOST_BEATS - beats_ago
        if scenes[start:start + ago] == last:
            return beats_ago
    raise TooLong(f"no window comes again within {MOST_BEATS} beats")


def going_round(web):
    """(scenes, first, round): the web's round, and the scenes below first + round.

    What window comes next hangs on the window alone. So a web that goes round
    in time still does so at the last beat, and its round is how long ago the
    window there was there before; windows part below first only.
    """
    before = scenes_before(web)
    scenes = before + scenes_on(web, before, 0, MOST_BEATS)
    again = _again(web, scenes)
    first = len(scenes) - again
    while first > 0 and scenes[first - 1] == scenes[first - 1 + again]:
        first = first - 1
    return scenes[len(before):len(before) + first + again], first, again


def _primes(number):
    """The primes that make the number, each as often as it is in it."""
    primes = []
    prime = 2
    while prime * prime <= number:
        if number % prime == 0:
            primes.append(prime)
            number = number // prime
        else:
            prime = prime + 1
    if number > 1:
        primes.append(number)
    return primes


def least_round(row, first, again):
    """The least (first, round) of a row that from first on comes again behind so many beats.

    The row has the items below first + again. Of all rounds that part again
    without rest the least one parts each other, so taking prime by prime
    away leads to it.
    """
    circle = row[first:]
    for prime in _primes(again):
        part = again // prime
        if circle[part:again] == circle[:again - part]:
            again = part
    while first > 0 and row[first - 1] == row[first - 1 + again]:
        first = first - 1
    return first, again
