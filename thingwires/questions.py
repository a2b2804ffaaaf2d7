"""Questions asked of things."""

from thingwires.basics import is_whole
from thingwires.entries import by_name
from thingwires.errors import NoQuestion


def asked(schema, thing, question):
    """Answer a question of a thing of the schema's root."""
    of = sort_asked(schema, question)
    for at, step in enumerate(question):
        behind = _behind(thing, step)
        if len(behind) == 0:
            return "none", at
        thing = behind[0]
    return _answer(of, thing)


def sort_asked(schema, question):
    """The type that a question leads to; refused by the first step that doesn't go with what it is asked of."""
    of = schema.root
    for at, step in enumerate(question):
        of = _sort_behind(schema, of, step)
        if of is None:
            raise NoQuestion(at)
    return of


def _sort_behind(schema, of, step):
    """The type to which a step, which may be any object, leads from a type; None where it leads to none."""
    if not isinstance(step, tuple) or len(step) not in (1, 2) or not isinstance(step[0], str):
        return None
    word = step[0]
    if len(step) == 1:
        return of[1] if word == "inside" and of[0] == "maybe" else None
    if word == "item" and of[0] == "row" and is_whole(step[1]) and step[1] >= 0:
        return of[2]
    if word == "field" and of[0] == "node":
        return _sort_named(schema.kinds[of[1]], step[1])
    if word == "case" and of[0] == "choice":
        return _sort_named(schema.choices[of[1]], step[1])
    return None


def _sort_named(row, name):
    """The type of the field or case of a name; None where there is none."""
    entry = by_name(row, name)
    return None if entry is None else entry[2]


def _behind(thing, step):
    """List what a step leads to from a thing: one thing, or none where it can't be gone."""
    word = step[0]
    if word == "field":
        return [thing.fields[step[1]]]
    if word == "item":
        return list(thing[step[1]:step[1] + 1])
    if word == "case":
        return [thing.content] if thing.word == step[1] else []
    return [] if thing is None else [thing]


def _answer(of, thing):
    """Tell what stands at the end of a question."""
    word = of[0]
    if word == "row":
        return "row", len(thing)
    if word == "maybe":
        return ("nothing",) if thing is None else ("maybe",)
    if word == "choice":
        return "choice", thing.word
    if word == "node":
        return "node", thing.kind
    return word, thing
