"""Names, types and schemas, and what is refused as none."""

from thingwires.basics import is_row, is_text, is_whole, keeps_bounds, keeps_figures
from thingwires.checking import check_thing
from thingwires.errors import NoSchema

LETTERS = "abcdefghijklmnopqrstuvwxyz"
MOST_LETTERS = 8
MOST_SIGNS = 40
MOST_IN_ROW = 20
LAST_NUMBER = 99


def is_name(thing):
    """Whether an object is a text of one to eight small letters."""
    if not isinstance(thing, str) or not 1 <= len(thing) <= MOST_LETTERS:
        return False
    return all([letter in LETTERS for letter in thing])


class Schema:
    """Kinds and choices by their names, rows by rising numbers, and the root's type."""

    def __init__(self, kinds, *, choices=None, root):
        given = {} if choices is None else choices
        kind_names = _names(kinds)
        choice_names = _names(given)
        _refuse_rows("kind", kinds, kind_names, choice_names)
        _refuse_rows("choice", given, kind_names, choice_names)
        if not is_sort(root, kind_names, choice_names):
            raise NoSchema(("root",), "sort")
        self.kinds = _by_numbers(kinds)
        self.choices = _by_numbers(given)
        self.root = root
        _refuse_comings_back(self.choices)

    def check(self, thing):
        """Refuse an object that is no thing of the root's type."""
        check_thing(self, thing)


def _names(rows):
    """List the keys that are names; others, which may claim to be equal to any, name nothing."""
    return [name for name in rows if is_name(name)]


def _by_numbers(rows):
    """Copy a dict of rows, each row by rising numbers."""
    return {name: tuple(sorted(row, key=lambda entry: entry[0])) for name, row in rows.items()}


def _refuse_rows(word, rows, kinds, choices):
    """Refuse rows of kinds or choices (word tells which) by the first place that is wrong.

    Here and below kinds and choices are lists of their names.
    """
    for name, row in rows.items():
        if not is_name(name):
            raise NoSchema((word, name, -1), "name")
        if not is_row(row) or (word == "choice" and len(row) == 0):
            raise NoSchema((word, name, -1), "row")
        for at, entry in enumerate(row):
            why = _fault(word, entry, row[:at], kinds, choices)
            if why is not None:
                raise NoSchema((word, name, at), why)


def _fault(word, entry, earlier, kinds, choices):
    """Tell what is wrong with a field or a case, if anything; those ahead of it are right."""
    if not isinstance(entry, tuple) or len(entry) not in ((3, 4) if word == "kind" else (3,)):
        return "row"
    number, name, of = entry[:3]
    if not is_name(name) or name in [other[1] for other in earlier]:
        return "name"
    least = 1 if word == "kind" else 0
    if not is_whole(number) or not least <= number <= LAST_NUMBER or number in [other[0] for other in earlier]:
        return "number"
    if word == "choice" and of is None:
        return None
    # Only a case may have the number 0, and then no content.
    if number == 0 or not is_sort(of, kinds, choices):
        return "sort"
    if len(entry) == 4 and not _is_default(of, entry[3]):
        return "default"
    return None


def is_sort(of, kinds, choices):
    """Whether an object is a type of these kinds and choices.

    One that is none may be nested without end, so rows and maybes are taken off one by one.
    """
    is_inside = False
    while True:
        word = _first_word(of)
        if word == "row" and len(of) == 3 and _is_most(of[1], MOST_IN_ROW):
            of = of[2]
            is_inside = False
        elif word == "maybe" and len(of) == 2 and not is_inside:
            of = of[1]
            is_inside = True
        else:
            return _is_inmost(word, of, kinds, choices)


def _first_word(of):
    """The text that a type begins with, or one of no sign."""
    if isinstance(of, tuple) and len(of) > 0 and isinstance(of[0], str):
        return of[0]
    return ""


def _is_inmost(word, of, kinds, choices):
    """Whether an object that begins with a word is a type in which no other stands."""
    if word == "number":
        return len(of) == 3 and _are_bounds(of[1], of[2])
    if word == "truth":
        return len(of) == 1
    if word == "text":
        return len(of) == 2 and _is_most(of[1], MOST_SIGNS)
    if word == "node":
        return len(of) == 2 and is_name(of[1]) and of[1] in kinds
    if word == "choice":
        return len(of) == 2 and is_name(of[1]) and of[1] in choices
    return False


def _is_most(most, limit):
    return is_whole(most) and 0 <= most <= limit


def _are_bounds(low, high):
    """Whether two objects are bounds of a number, the low one not above the high one."""
    if low is not None and not is_whole(low):
        return False
    if high is not None and not is_whole(high):
        return False
    return low is None or high is None or low <= high


def _is_default(of, default):
    """Whether an object is a default of a type."""
    word = of[0]
    if word == "number":
        return is_whole(default) and keeps_bounds(default, of[1], of[2]) and keeps_figures(default)
    if word == "truth":
        return isinstance(default, bool)
    if word == "text":
        return is_text(default) and len(default) <= of[1]
    if word == "row":
        return isinstance(default, tuple) and len(default) == 0
    return word == "maybe" and default is None


def _refuse_comings_back(choices):
    """Refuse the first choice that one comes back to by the contents of first cases."""
    for name in choices:
        at = name
        # A way that hasn't come back after as many steps as there are choices never does.
        for _ in choices:
            content = choices[at][0][2]
            if content is None or content[0] != "choice":
                break
            at = content[1]
            if at == name:
                raise NoSchema(("choice", name, -1), "sort")
