"""Things as they are written in columns: all things of one field side by side."""

from thingwires.checking import MOST_NODES
from thingwires.errors import NoBytes
from thingwires.numerals import lone_bytes
from thingwires.packed import PackedReader, PackedWriter
from thingwires.things import Node, nodes_met
from thingwires.views import View


def column_bytes(schema, head, thing):
    """Write a thing of the root's type behind a head."""
    nodes = nodes_met(schema, thing)
    kinds = sorted(schema.kinds)
    writer = ColumnWriter(schema, head, nodes)
    writer.written.extend([*lone_bytes(len(nodes)), *[kinds.index(node.kind) for node in nodes]])
    writer.run(schema.root, thing)
    for kind in kinds:
        writer.write_columns(kind, [node for node in nodes if node.kind == kind])
    return writer.written


def read_columns(schema, data):
    """Read the thing that bytes write in columns; of bytes that write none some object, or they are refused."""
    reader = ColumnReader(schema, View(data))
    reader.read_kinds()
    thing = reader.read_whole(schema.root)
    for kind in sorted(schema.kinds):
        reader.read_columns(kind, [node for node in reader.nodes if node.kind == kind])
    return thing


class ColumnWriter(PackedWriter):
    """Writes things as they are packed, but each node by its number."""

    def __init__(self, schema, head, nodes):
        PackedWriter.__init__(self, schema, head)
        self.numbers = {node: at for at, node in enumerate(nodes)}

    def write_node(self, fields, node):
        """Write a node's number."""
        self.written.extend(lone_bytes(self.numbers[node]))

    def write_columns(self, kind, nodes):
        """Write the columns of a kind, each behind its length, where there are nodes of it."""
        for field in self.schema.kinds[kind] if nodes else ():
            at = self.hold_length()
            for node in nodes:
                self.run(field[2], node.fields[field[1]])
            self.put_length(at)


class ColumnReader(PackedReader):
    """Reads things that are written in columns; all nodes are there, without fields, ahead of these."""

    def read_kinds(self):
        """Read how many nodes there are, and make each of its kind."""
        kinds = sorted(self.schema.kinds)
        many = self.view.lone()
        if many > MOST_NODES:
            raise NoBytes("thing")
        for _ in range(many):
            place = self.view.byte()
            if place >= len(kinds):
                raise NoBytes("thing")
            self.nodes.append(Node(kinds[place]))

    def read_node(self, kind):
        """Take a node by its number, whatever its kind is."""
        number = self.view.lone()
        if number >= len(self.nodes):
            raise NoBytes("thing")
        self.made.append(self.nodes[number])

    def read_columns(self, kind, nodes):
        """Read the columns of a kind, where there are nodes of it."""
        for field in self.schema.kinds[kind] if nodes else ():
            self.view.three()
            for node in nodes:
                node.put(field[1], self.read_whole(field[2]))
