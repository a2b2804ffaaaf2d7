"""The four wires: things written in bytes, and bytes read as the things of which they are the one writing."""

from thingwires.columns import column_bytes, read_columns
from thingwires.errors import NoBytes, NoThing, NoTurn
from thingwires.heads import HEAD, WIRES, wire_of
from thingwires.packed import packed_bytes, read_packed
from thingwires.readers import made, run_reader
from thingwires.signs import codes_of, text_of
from thingwires.tagged import tagged_bytes
from thingwires.thingtexts import read_shown, show_thing


def write_bytes(schema, thing, wire, edition):
    """Write a thing of a schema, which is the edition of this number, by a wire."""
    head = [WIRES[wire], edition]
    if wire == "tagged":
        return tagged_bytes(schema, head, thing)
    if wire == "packed":
        return packed_bytes(schema, head, thing)
    if wire == "columns":
        return column_bytes(schema, head, thing)
    return [*head, *codes_of(show_thing(schema, thing))]


def read_bytes(schema, data):
    """Read the thing of a schema of which bytes, whose first two tell a wire and the schema, are the writing.

    They are read without much care; that nothing but the one writing of a thing gets by is seen to
    by checking what was read and writing it again.
    """
    wire = wire_of(data)
    thing = _read_some(schema, data, wire)
    try:
        schema.check(thing)
    except NoThing:
        raise NoBytes("thing") from None
    if write_bytes(schema, thing, wire, data[1]) != list(data):
        raise NoBytes("thing")
    return thing


def _read_some(schema, data, wire):
    """Read what bytes write; of bytes that are no writing some object, or they are refused with NoBytes."""
    if wire == "text":
        return read_shown(schema, text_of(data[HEAD:]))
    if wire == "packed":
        return read_packed(schema, data)
    if wire == "columns":
        return read_columns(schema, data)
    try:
        return run_reader(made(schema, schema), data)
    except NoTurn:
        raise NoBytes("thing") from None
