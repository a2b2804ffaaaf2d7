"""Things as they are written packed: without numbers of fields, in as few bytes as bounds ask for."""

from thingwires.building import Builder
from thingwires.bytewriting import ByteWriter
from thingwires.entries import by_name
from thingwires.errors import NoBytes
from thingwires.numerals import lone_bytes, number_bytes, wide_bytes, width_of
from thingwires.things import Node, field_names
from thingwires.views import View


def packed_bytes(schema, head, thing):
    """Write a thing of the root's type behind a head."""
    writer = PackedWriter(schema, head)
    writer.run(schema.root, thing)
    return writer.written


def read_packed(schema, data):
    """Read the thing that bytes write packed; of bytes that write none some object, or they are refused."""
    reader = PackedReader(schema, View(data))
    return reader.read_whole(schema.root)


class PackedWriter(ByteWriter):
    """Writes things packed; it keeps the number of each node."""

    def __init__(self, schema, head):
        ByteWriter.__init__(self, schema, head)
        self.numbers = {}

    def write_number(self, of, number):
        """Write a number: where it has two bounds, what it is above the low one."""
        _, low, high = of
        if low is None or high is None:
            self.written.extend(number_bytes(number))
        else:
            self.written.extend(wide_bytes(number - low, width_of(high - low)))

    def write_row(self, of, row):
        """Write the things of a row."""
        self.write_next([("thing", of, thing) for thing in row])

    def write_case(self, cases, case):
        """Write a case's place and its content."""
        found = by_name(cases, case.word)
        self.written.append(cases.index(found))
        self.write_next([] if found[2] is None else [("thing", found[2], case.content)])

    def write_node(self, fields, node):
        """Write a node's fields, or its number where it was met already."""
        if node in self.numbers:
            self.written.extend(lone_bytes(self.numbers[node] + 1))
            return
        self.numbers[node] = len(self.numbers)
        self.written.append(0)
        self.write_next([("thing", field[2], node.fields[field[1]]) for field in fields])


class PackedReader(Builder):
    """Reads things that are written packed; it keeps the nodes by their numbers."""

    def __init__(self, schema, view):
        Builder.__init__(self)
        self.schema = schema
        self.view = view
        self.nodes = []

    def read_whole(self, of):
        """Read a thing of a type, with all that is in it."""
        self.do_next([("read", of)])
        return self.run()

    def begin(self, job):
        """Read a thing of a type, or begin to, where things stand in it."""
        of = job[1]
        word = of[0]
        if word == "number":
            self.made.append(self.read_number(of))
        elif word == "truth":
            self.made.append(self.view.flag())
        elif word == "text":
            self.made.append(self.view.measured_signs())
        elif word == "row":
            self.read_row(of)
        elif word == "maybe":
            self.do_next([("read", of[1]) if self.view.flag() else ("keep", None)])
        elif word == "choice":
            self.read_case(self.schema.choices[of[1]])
        else:
            self.read_node(of[1])

    def read_number(self, of):
        """Read a number of a type."""
        _, low, high = of
        if low is None or high is None:
            return self.view.number()
        return low + self.view.wide(width_of(high - low))

    def read_row(self, of):
        """Read how many things a row has, and begin to read these."""
        many = self.view.lone()
        # Things may take no bytes at all, so what has too many is refused ahead of being read.
        if many > of[1]:
            raise NoBytes("thing")
        self.do_next([*[("read", of[2]) for _ in range(many)], ("row", many)])

    def read_case(self, cases):
        """Read a case by its place, and begin to read its content."""
        place = self.view.byte()
        if place >= len(cases):
            raise NoBytes("thing")
        _, name, inner = cases[place]
        self.do_next([("keep", None) if inner is None else ("read", inner), ("case", name)])

    def read_node(self, kind):
        """Begin to read a node, or take one that was met already."""
        number = self.view.lone()
        if number > len(self.nodes):
            raise NoBytes("thing")
        if number > 0:
            self.made.append(self.nodes[number - 1])
            return
        node = Node(kind)
        self.nodes.append(node)
        parts = [("read", field[2]) for field in self.schema.kinds[kind]]
        self.do_next([*parts, ("fill", node, field_names(self.schema, kind))])
