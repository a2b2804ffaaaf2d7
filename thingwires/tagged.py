"""Things as they are written tagged: with the numbers of fields and cases, and with lengths."""

from thingwires.bytewriting import ByteWriter
from thingwires.entries import by_name
from thingwires.errors import NoBytes
from thingwires.heads import HEAD
from thingwires.numerals import lone_bytes, number_bytes, wide_bytes
from thingwires.views import THREE

NODE_FIRST = 1
NODE_LATER = 2


def tagged_bytes(schema, head, thing):
    """Write a thing of the root's type behind a head."""
    writer = TaggedWriter(schema, head)
    writer.run(schema.root, thing)
    return writer.written


def find_node(view):
    """Pass the first byte of a node where it was met first, also from a later place of it; tell its place."""
    place = view.at
    mark = view.byte()
    if mark == NODE_LATER:
        place = view.three()
        view.go(place, len(view.data))
        mark = view.byte()
    if mark != NODE_FIRST or place < HEAD:
        raise NoBytes("thing")
    return place


class TaggedWriter(ByteWriter):
    """Writes things tagged; it keeps the place of each node."""

    def __init__(self, schema, head):
        ByteWriter.__init__(self, schema, head)
        self.places = {}

    def write_number(self, of, number):
        """Write a number, whatever its bounds."""
        self.written.extend(number_bytes(number))

    def write_row(self, of, row):
        """Write each thing behind its length."""
        self.write_next([("measured", of, thing) for thing in row])

    def write_case(self, cases, case):
        """Write a case's number and its content."""
        number, _, inner = by_name(cases, case.word)
        self.written.extend(lone_bytes(number))
        self.write_next([] if inner is None else [("thing", inner, case.content)])

    def write_node(self, fields, node):
        """Write a node's fields that aren't their defaults, or the place where it was met first."""
        if node in self.places:
            self.written.extend([NODE_LATER, *wide_bytes(self.places[node], THREE)])
            return
        self.places[node] = len(self.written)
        jobs = []
        for field in fields:
            thing = node.fields[field[1]]
            if len(field) == 3 or thing != field[3]:
                jobs.extend([("lone", field[0], None), ("measured", field[2], thing)])
        self.written.extend([NODE_FIRST, *lone_bytes(len(jobs) // 2)])
        self.write_next(jobs)
