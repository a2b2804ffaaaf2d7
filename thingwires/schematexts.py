"""Schemas as texts."""

from thingwires.errors import NoSchema, NoText
from thingwires.quotes import show_value, unquoted
from thingwires.schemas import Schema


def show_schema(schema):
    """Show a schema as a text."""
    rows = []
    for name in sorted(schema.kinds):
        rows.append(f"kind {name}")
        rows.extend([_show_field(field) for field in schema.kinds[name]])
    for name in sorted(schema.choices):
        rows.append(f"choice {name}")
        rows.extend([_show_case(case) for case in schema.choices[name]])
    rows.append(f"root {_show_sort(schema.root)}")
    return "\n".join(rows)


def read_schema(text):
    """Read the schema of which a text is what is shown.

    The rows are read without much care; that nothing but the one text of a schema gets by is
    seen to by showing what was read.
    """
    schema = _read_rows(text.split("\n")) if isinstance(text, str) else None
    if schema is None or show_schema(schema) != text:
        raise NoText(text)
    return schema


def _show_field(field):
    number, name, of = field[:3]
    shown = f"{number} {name} {_show_sort(of)}"
    if len(field) == 3:
        return shown
    return f"{shown} = {_show_default(of, field[3])}"


def _show_case(case):
    number, name, of = case
    if of is None:
        return f"{number} {name}"
    return f"{number} {name} {_show_sort(of)}"


def _show_sort(of):
    """Show a type, from the outside in."""
    words = []
    while of[0] in ("row", "maybe"):
        words.append(f"row {of[1]}" if of[0] == "row" else "maybe")
        of = of[-1]
    words.append(_show_inmost(of))
    return " ".join(words)


def _show_inmost(of):
    if of[0] == "number":
        return f"number {_show_bound(of[1])}..{_show_bound(of[2])}"
    if of[0] == "truth":
        return "truth"
    return f"{of[0]} {of[1]}"


def _show_bound(bound):
    return "*" if bound is None else str(bound)


def _show_default(of, default):
    if of[0] == "row":
        return "[]"
    return "-" if of[0] == "maybe" else show_value(default)


def _read_rows(rows):
    """Read a schema from the rows of its text; None where there is none."""
    tables = {"kind": {}, "choice": {}}
    entries = []
    for row in rows[:-1]:
        words = row.split(" ")
        if words[0] in tables and len(words) == 2:
            entries = []
            tables[words[0]][words[1]] = entries
        else:
            entries.append(_read_entry(row))
    words = rows[-1].split(" ")
    try:
        return Schema(tables["kind"], choices=tables["choice"], root=_read_sort(words[1:]))
    except NoSchema:
        return None


def _read_entry(row):
    """Read a field or a case from its row; names and types have no `=` in them."""
    head, mark, default = row.partition(" = ")
    words = head.split(" ")
    of = _read_sort(words[2:])
    entry = (_read_number(words[0]), "".join(words[1:2]), of)
    if mark == "" or of is None:
        return entry
    return (*entry, _read_default(of, default))


def _read_sort(words):
    """Read a type from its words; None where they begin with no word of a type."""
    around = []
    at = 0
    while at < len(words) and words[at] in ("row", "maybe"):
        if words[at] == "row":
            around.append(("row", _read_number("".join(words[at + 1:at + 2]))))
            at += 2
        else:
            around.append(("maybe",))
            at += 1
    of = _read_inmost(words[at:])
    for head in around[::-1]:
        of = (*head, of)
    return of


def _read_inmost(words):
    if words == ["truth"]:
        return ("truth",)
    if len(words) != 2:
        return None
    word, rest = words
    if word == "number":
        low, _, high = rest.partition("..")
        return "number", _read_number(low), _read_number(high)
    if word == "text":
        return "text", _read_number(rest)
    return word, rest


def _read_number(word):
    """Read a number; None where a word is none, or has more figures than Python takes."""
    try:
        number = int(word)
    except ValueError:
        return None
    return number


def _read_default(of, word):
    """Read a default of a type; what is none is read as one that is refused, or shown otherwise."""
    if of[0] == "number":
        return _read_number(word)
    if of[0] == "truth":
        return {"yes": True, "no": False}.get(word)
    if of[0] == "text":
        return unquoted(word)
    return () if of[0] == "row" else None
