"""Whether an object is a thing of a schema's root, gone through place by place."""

from thingwires.basics import is_text, is_whole, keeps_bounds, keeps_figures
from thingwires.entries import by_name
from thingwires.errors import NoThing
from thingwires.things import Case, Node

MOST_NODES = 63
MOST_PLACES = 2000
MOST_STEPS = 160


def check_thing(schema, thing):
    """Refuse an object that is no thing of the schema's root, by the first place that is wrong."""
    nodes = {}
    places = 0
    ahead = [(schema.root, thing, ())]
    while ahead:
        of, part, path = ahead.pop()
        places += 1
        if not _is_sort(schema, of, part):
            raise NoThing(path, "sort")
        is_later = of[0] == "node" and part in nodes
        if of[0] == "node":
            nodes[part] = True
        if places > MOST_PLACES or len(nodes) > MOST_NODES:
            raise NoThing(path, "many")
        if len(path) > MOST_STEPS:
            raise NoThing(path, "deep")
        if not is_later:
            _refuse_size(schema, of, part, path)
            ahead.extend(_parts(schema, of, part, path)[::-1])


def _is_sort(schema, of, thing):
    """Whether an object is of the sort of a type; of is None where there is nothing to be."""
    if of is None:
        return False
    word = of[0]
    if word == "number":
        return is_whole(thing)
    if word == "truth":
        return isinstance(thing, bool)
    if word == "text":
        return is_text(thing)
    if word == "row":
        return isinstance(thing, tuple)
    if word == "choice":
        return isinstance(thing, Case) and by_name(schema.choices[of[1]], thing.word) is not None
    if word == "node":
        return isinstance(thing, Node) and isinstance(thing.kind, str) and thing.kind == of[1]
    # Whatever a maybe is, but None, is looked at as what is inside.
    return True


def _refuse_size(schema, of, thing, path):
    """Refuse a thing of the right sort that is out of its type's bounds."""
    word = of[0]
    if word == "number" and not (keeps_bounds(thing, of[1], of[2]) and keeps_figures(thing)):
        raise NoThing(path, "bounds")
    if word in ("text", "row") and len(thing) > of[1]:
        raise NoThing(path, "most")
    if word == "node" and not _has_fields(schema.kinds[of[1]], thing):
        raise NoThing(path, "fields")


def _has_fields(fields, node):
    """Whether a node has just the fields of its kind."""
    names = [name for name in node.fields if isinstance(name, str)]
    if len(names) != len(node.fields) or len(names) != len(fields):
        return False
    return all([field[1] in names for field in fields])


def _parts(schema, of, thing, path):
    """List what stands straight in a thing: its type, itself and its path, for each in order."""
    word = of[0]
    if word == "row":
        return [(of[2], part, (*path, at)) for at, part in enumerate(thing)]
    if word == "maybe" and thing is not None:
        return [(of[1], thing, (*path, ("inside",)))]
    if word == "choice":
        inner = by_name(schema.choices[of[1]], thing.word)[2]
        if inner is not None or thing.content is not None:
            return [(inner, thing.content, (*path, ("case", thing.word)))]
    if word == "node":
        return [(field[2], thing.fields[field[1]], (*path, field[1])) for field in schema.kinds[of[1]]]
    return []
