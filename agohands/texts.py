"""Texts of webs, and numbers in figures."""

from agohands.errors import NoText
from agohands.kinds import is_text
from agohands.webs import is_web

FIGURES = "0123456789"
# No number in a web's text has more.
MOST_FIGURES = 2


def in_figures(numbers):
    """The numbers by their figures, with blanks between."""
    return " ".join([str(number) for number in numbers])


def read_number(word, most):
    """The whole number of at most so many figures, without noughts ahead, or None."""
    if not 1 <= len(word) <= most or not all([sign in FIGURES for sign in word]):
        return None
    if word[0] == "0" and word != "0":
        return None
    return int(word)


def _rule_text(rule):
    every, at, what = rule
    if what[0] == "own":
        told = f"own {in_figures(what[1])}"
    else:
        told = f"copy {what[1]} ago {what[2]} by {in_figures(what[3])}"
    return f"every {every} at {at} {told}\n"


def show_web(web):
    """The web's text."""
    many, before, hands = web
    rows = [f"doings {many}\n"]
    for doing, rules in zip(before, hands):
        rows.append(f"hand {doing}\n")
        rows.extend([_rule_text(rule) for rule in rules])
    return "".join(rows)


def _numbers(words):
    return tuple([read_number(word, MOST_FIGURES) for word in words])


def _what_of(words):
    if words[0] == "own":
        return "own", _numbers(words[1:])
    hand_and_ago = _numbers(words[1:4:2])
    return ("copy", *hand_and_ago, _numbers(words[5:]))


def _rule_of(row):
    words = row.split(" ")
    if len(words) < 5:
        return None
    return (*_numbers(words[1:4:2]), _what_of(words[4:]))


def _web_of(text):
    """The web that the text may be of, or what is none."""
    rows = text.split("\n")
    many = _numbers(rows[0].split(" ")[1:])
    before = []
    hands = []
    for row in rows[1:-1]:
        word, _, rest = row.partition(" ")
        if word == "hand":
            before.append(rest)
            hands.append([])
        elif hands:
            hands[-1].append(_rule_of(row))
    return (*many, _numbers(before), tuple([tuple(rules) for rules in hands]))


def read_web(text):
    """The web of which this is the text."""
    if is_text(text):
        web = _web_of(text)
        # What was passed over in reading is missed in the text of what was read.
        if is_web(web) and show_web(web) == text:
            return web
    raise NoText("it is no text of a web")
