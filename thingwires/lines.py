"""Texts that a desk is told, cut into words."""

from thingwires.basics import FIGURES
from thingwires.errors import NoLine
from thingwires.schemas import is_name

MOST_FIGURES = 60
SHAPES = {
    "put": ("word", "number", "word"),
    "read": ("word", "number", "number"),
    "ask": ("word", "number", "number"),
    "size": ("word",),
    "tear": ("word", "number", "number"),
    "meets": ("number", "number"),
    "run": ("word",),
}


def read_line(text):
    """Cut a text into its first word, the words behind it, the steps of a question, and what is behind its first row.

    Numbers and steps are told as such. What has none of the shapes is refused with NoLine.
    """
    row, feed, rest = text.partition("\n") if isinstance(text, str) else ("", "", "")
    word, *words = row.split(" ")
    shape = SHAPES.get(word, ())
    arguments = [_read_argument(sort, argument) for sort, argument in zip(shape, words)]
    steps = [_read_step(step) for step in words[len(shape):]]
    if len(shape) == 0 or len(arguments) < len(shape) or None in arguments or None in steps:
        raise NoLine((), "form")
    if (feed != "" and word != "put") or (feed == "" and word == "put") or (len(steps) > 0 and word != "ask"):
        raise NoLine((), "form")
    if word == "tear" and arguments[1] > arguments[2]:
        raise NoLine((), "form")
    return word, arguments, steps, rest


def _read_argument(sort, word):
    return _read_figures(word) if sort == "number" else word


def _read_figures(word):
    """Read a number of at most sixty figures, the first one no 0 but in 0 itself; None where a word is none."""
    if not 1 <= len(word) <= MOST_FIGURES or not all([sign in FIGURES for sign in word]):
        return None
    return None if word.startswith("0") and word != "0" else int(word)


def _read_step(word):
    """Read a step of a question; None where a word is none."""
    mark, rest = word[:1], word[1:]
    if mark == "#":
        number = _read_figures(rest)
        return None if number is None else ("item", number)
    if word == "?":
        return ("inside",)
    if mark in (".", ":") and is_name(rest):
        return "field" if mark == "." else "case", rest
    return None
