"""A desk: running hands that answer rows of text."""

from agohands.errors import NoHand, NoRow, NoText
from agohands.far import doing_at
from agohands.kinds import is_text
from agohands.running import Running
from agohands.texts import in_figures, read_number, read_web, show_web
from agohands.traces import source
from agohands.windows import hand_round

MOST_FIGURES = 19


def _web_of(text):
    """The web of a text whose rows are parted by semicolons."""
    if "\n" in text:
        raise NoText("a line feed is in the web's text")
    return read_web(text.replace(";", "\n") + "\n")


def _web_now(running):
    return running.kept()[1]


def _web_with(running, hand):
    """The web that goes now, where it has this hand."""
    if hand >= len(running):
        raise NoHand(f"the web has no hand {hand}")
    return _web_now(running)


def _go(running, n):
    return in_figures(running.go(n))


def _scene(running):
    return in_figures(running.scene())


def _beat(running):
    return str(running.now())


def _did(running, hand, ago):
    return str(running.did(hand, ago))


def _at(running, hand, beat):
    return str(doing_at(_web_with(running, hand), hand, beat))


def _source(running, hand, beat):
    begun_by, begun_at, _, copies = source(_web_with(running, hand), hand, beat)
    return in_figures((begun_by, begun_at, copies))


def _round(running, hand):
    return in_figures(hand_round(_web_with(running, hand), hand))


def _rules(running):
    rows = show_web(_web_now(running)).split("\n")
    return ";".join(rows[:-1])


# By a row's word and by how many numbers stand behind it.
ANSWERS = {
    ("go", 1): _go,
    ("scene", 0): _scene,
    ("beat", 0): _beat,
    ("did", 2): _did,
    ("at", 2): _at,
    ("source", 2): _source,
    ("round", 1): _round,
    ("rules", 0): _rules,
}


def _answered(running, row):
    """What is answered to a row that has no text of a web in it."""
    words = row.split(" ")
    numbers = [read_number(word, MOST_FIGURES) for word in words[1:]]
    key = (words[0], len(numbers))
    if key not in ANSWERS or None in numbers:
        raise NoRow("it is no row that is answered")
    answer = ANSWERS[key]
    return answer(running, *numbers)


class Desk:
    """A desk with a Running, at first without one."""

    def __init__(self):
        self._running = None

    def say(self, row):
        """The answer to the row."""
        if not is_text(row):
            raise NoRow("it is no text")
        word, blank, text = row.partition(" ")
        if word == "web" and blank:
            self._running = Running(_web_of(text))
            return "ok"
        if self._running is None:
            raise NoRow("no web goes as yet")
        if word == "change" and blank:
            self._running.change(_web_of(text))
            return "ok"
        return _answered(self._running, row)
