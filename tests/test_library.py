"""Libraries: [32], and the order of their refusals."""

import unittest

from oddities import odd_objects, plain_objects
from plainwires import plainly_written

from thingwires.errors import NoBytes, NoEdition, NoMeeting, NoThing, NoTurn, NoWire, WireError
from thingwires.library import Library
from thingwires.meeting import keeps, meets
from thingwires.readers import made
from thingwires.schemas import Schema
from thingwires.streams import streamed
from thingwires.things import Case, Node, told

WIRES = ["text", "tagged", "packed", "columns"]
TRUTH = ("truth",)
NUMBER = ("number", None, None)


def schema_of(root, choices=None, **kinds):
    return Schema(kinds, choices=choices, root=root)


def numbers(*bounds):
    return [schema_of(("number", low, high)) for low, high in bounds]


NO_EDITIONS = odd_objects() + [True, False, None, -1, 3, 4, 255, 10 ** 60, "0", "", (), (0,), "truth"]


class LibraryCase(unittest.TestCase):
    def setUp(self):
        self.editions = numbers((0, 9), (0, 99), (None, None))
        self.library = Library(self.editions)

    def raises(self, error, call, *fields):
        """An error of just this class with just these fields, each the very one."""
        with self.assertRaises(WireError) as caught:
            call()
        self.assertIs(type(caught.exception), error)
        found = list(vars(caught.exception).values())
        self.assertEqual(len(found), len(fields))
        for one, other in zip(found, fields):
            if isinstance(other, (str, tuple, int)):
                self.assertEqual((type(one), one), (type(other), other))
            else:
                self.assertIs(one, other)

    def test_editions(self):
        self.assertIs(type(self.library.editions), tuple)
        self.assertEqual(self.library.editions, tuple(self.editions))
        self.editions.append(schema_of(TRUTH))
        self.assertEqual(len(self.library.editions), 3)
        self.assertEqual(Library(editions=tuple(self.editions)).editions, tuple(self.editions))
        self.assertEqual(len(Library(self.editions[:1] * 12).editions), 12)


class TestNoEdition(LibraryCase):
    def test_what_is_no_editions_number(self):
        for edition in NO_EDITIONS:
            for call in [
                lambda: self.library.write(5, edition=edition), lambda: self.library.write("no", edition=edition, wire="no"),
                lambda: self.library.read([71, 0, 2], edition=edition), lambda: self.library.read("no", edition=edition),
                lambda: self.library.shelf([], edition=edition), lambda: self.library.shelf("no", edition=edition),
                lambda: self.library.ask([71, 0, 2], [], edition=edition), lambda: self.library.ask("no", ["no"], edition=edition),
                lambda: self.library.meets(edition, 0), lambda: self.library.meets(0, edition), lambda: self.library.meets(edition, "no"),
                lambda: self.library.keeps(edition, 0), lambda: self.library.keeps(0, edition), lambda: self.library.keeps(edition, "no"),
                lambda: self.library.reader(edition, 0), lambda: self.library.reader(0, edition), lambda: self.library.reader(edition, "no"),
                lambda: self.library.grow(schema_of(NUMBER), must=[edition]), lambda: self.library.grow(schema_of(NUMBER), must=(0, edition, "no")),
            ]:
                self.raises(NoEdition, call, edition)
        self.assertEqual(len(self.library.editions), 3)


class TestWrite(LibraryCase):
    def test_wires(self):
        self.assertEqual(self.library.write(5, edition=0), [71, 0, 10])
        self.assertEqual(self.library.write(thing=5, wire="text", edition=2), [84, 2, 53])
        self.assertEqual(self.library.write(5, edition=1, wire="packed"), [80, 1, 5])
        self.assertEqual(self.library.write(5, edition=0, wire="columns"), [67, 0, 0, 5])
        self.assertEqual(Library(self.editions * 4).write(5, edition=11), [71, 11, 10])
        self.assertIsNot(self.library.write(5, edition=0), self.library.write(5, edition=0))

    def test_what_is_no_wire(self):
        for wire in odd_objects() + [True, False, None, 0, 71, "", "Text", "tagged ", "tag", "pack", "column", ("text",), ["text"], b"text"]:
            self.raises(NoWire, lambda: self.library.write(5, edition=0, wire=wire), wire)
            self.raises(NoWire, lambda: self.library.write("no", edition=0, wire=wire), wire)

    def test_what_is_no_thing(self):
        for wire in WIRES:
            self.raises(NoThing, lambda: self.library.write(10, edition=0, wire=wire), (), "bounds")
            for thing in odd_objects():
                self.raises(NoThing, lambda: self.library.write(thing, edition=0, wire=wire), (), "sort")
        library = Library([schema_of(("node", "k"), k=[(1, "a", ("row", 2, TRUTH))])])
        for wire in WIRES:
            self.raises(NoThing, lambda: library.write(Node("k", {"a": (True, 0)}), edition=0, wire=wire), ("a", 1), "sort")
            self.raises(NoThing, lambda: library.write(Node("k", {"a": (True,) * 3}), edition=0, wire=wire), ("a",), "most")
            self.raises(NoThing, lambda: library.write(Node("k"), edition=0, wire=wire), (), "fields")


class TestRead(LibraryCase):
    def test_read(self):
        for wire in WIRES:
            data = self.library.write(50, edition=1, wire=wire)
            for edition in (1, 2):
                self.assertEqual(self.library.read(data, edition=edition), 50)
                self.assertEqual(self.library.read(edition=edition, data=tuple(data)), 50)
            self.raises(NoTurn, lambda: self.library.read(data, edition=0), (), "bounds")

    def test_the_order_of_refusals(self):
        self.raises(NoBytes, lambda: self.library.read([70, 9, 0], edition=0), "wire")
        self.raises(NoBytes, lambda: self.library.read([71, 9, 0], edition=0), "edition")
        # Out of the bounds of the edition that wrote it and of the reader's.
        self.raises(NoBytes, lambda: self.library.read([71, 1, 200, 2], edition=0), "thing")
        self.raises(NoTurn, lambda: self.library.read([71, 1, 100], edition=0), (), "bounds")

    def test_what_is_read_is_new(self):
        library = Library([schema_of(("node", "k"), k=[(1, "on", ("maybe", ("node", "k")))])])
        node = Node("k")
        node.put("on", node)
        data = library.write(node, edition=0)
        one, other = library.read(data, edition=0), library.read(data, edition=0)
        self.assertNotEqual(one, node)
        self.assertNotEqual(one, other)
        one.put("on", None)
        self.assertIs(other.fields["on"], other)


class TestMark(LibraryCase):
    def test_mark(self):
        for code, wire in [(84, "text"), (71, "tagged"), (80, "packed"), (67, "columns")]:
            for edition in range(3):
                for rest in ([], [0], [255] * 9, self.library.write(5, edition=edition, wire=wire)[2:]):
                    found = self.library.mark([code, edition, *rest])
                    self.assertEqual(found, (wire, edition))
                    self.assertIs(type(found), tuple)
                    self.assertEqual(self.library.mark(data=(code, edition, *rest)), (wire, edition))

    def test_refusals(self):
        for data in odd_objects() + plain_objects() + [[], [0], [71, 0, 256], [71, 0, True], [85, 0]]:
            self.raises(NoBytes, lambda: self.library.mark(data), "wire")
        for data in ([71], [71, 3], (84, 3, 53), [67, 255]):
            self.raises(NoBytes, lambda: self.library.mark(data), "edition")


class TestShelf(LibraryCase):
    def test_shelf(self):
        parts = [self.library.write(5, edition=0), self.library.write(50, edition=1, wire="text"), [71, 0, 200], [], [71, 7], self.library.write(-5, edition=2, wire="packed"),
                 self.library.write(7, edition=0, wire="columns")]
        stream = streamed(parts)
        places = [len(streamed(parts[:at])) for at in range(len(parts) + 1)]
        self.assertEqual(self.library.shelf(stream, edition=0), [
            ("thing", places[0], 5), ("refused", places[1], "NoTurn", (), "bounds"), ("refused", places[2], "NoBytes", (), "thing"),
            ("refused", places[3], "NoBytes", (), "wire"), ("refused", places[4], "NoBytes", (), "edition"), ("refused", places[5], "NoTurn", (), "bounds"),
            ("thing", places[6], 7),
        ])
        found = self.library.shelf(data=tuple(stream), edition=2)
        self.assertEqual([row[0] for row in found], ["thing", "thing", "refused", "refused", "refused", "thing", "thing"])
        self.assertEqual({type(row) for row in found}, {tuple})
        self.assertIs(type(found), list)
        self.assertEqual(self.library.shelf([], edition=0), [])
        self.assertEqual(self.library.shelf([0, 0], edition=0), [])

    def test_torn_pieces(self):
        stream = streamed([self.library.write(5, edition=0), self.library.write(6, edition=0)])
        half = len(stream) // 2
        self.assertEqual(self.library.shelf(stream[1:], edition=0), [("torn", 0, half - 2), ("thing", half - 1, 6)])
        self.assertEqual(self.library.shelf(stream[:-1], edition=0), [("thing", 0, 5), ("torn", half, half - 1)])
        changed = [*stream[:2], stream[2] + 1, *stream[3:], 9, 9]
        self.assertEqual(self.library.shelf(changed, edition=0), [("torn", 0, half - 1), ("thing", half, 6), ("torn", len(stream), 2)])

    def test_paths(self):
        old = schema_of(("node", "k"), k=[(1, "a", ("row", 3, NUMBER))])
        new = schema_of(("node", "k"), k=[(1, "b", ("row", 3, ("number", 0, 9)))])
        library = Library([old, new])
        data = streamed([library.write(Node("k", {"a": (1, 50)}), edition=0)])
        self.assertEqual(library.shelf(data, edition=1), [("refused", 0, "NoTurn", ("b", 1), "bounds")])
        (_, _, one), = library.shelf(data, edition=0)
        (_, _, other), = library.shelf(data, edition=0)
        self.assertNotEqual(one, other)

    def test_what_is_no_bytes(self):
        for data in odd_objects() + ["", "a", None, 5, True, [256], [True], [-1]]:
            if type(data) is not list or data not in ([], [1, 2]):
                self.raises(NoBytes, lambda: self.library.shelf(data, edition=0), "wire")


class TestGrow(LibraryCase):
    def test_grow(self):
        schema = schema_of(("number", 0, 999))
        self.assertEqual(self.library.grow(schema), 3)
        self.assertIs(self.library.editions[3], schema)
        self.assertIs(type(self.library.editions), tuple)
        self.assertEqual(self.library.grow(must=[0, 1, 3], schema=schema_of(NUMBER)), 4)
        self.assertEqual(self.library.grow(schema_of(TRUTH), must=()), 5)
        self.assertEqual(self.library.read(self.library.write(True, edition=5), edition=5), True)
        self.assertEqual(len(self.library.editions), 6)

    def test_must_with_a_narrower_schema(self):
        schema = schema_of(("number", 0, 50))
        self.raises(NoMeeting, lambda: self.library.grow(schema, must=(0, 1)), 1, (), "bounds")
        self.raises(NoMeeting, lambda: self.library.grow(schema, must=[2, 1]), 2, (), "bounds")
        self.raises(NoMeeting, lambda: self.library.grow(schema, must=[0, 0, 1, 77]), 1, (), "bounds")
        self.raises(NoEdition, lambda: self.library.grow(schema, must=[0, 77, 1]), 77)
        self.assertEqual(self.library.editions, tuple(self.editions))
        self.assertEqual(self.library.grow(schema, must=(0, 0)), 3)
        old = schema_of(("node", "k"), k=[(1, "a", ("row", 3, NUMBER))])
        lacking = schema_of(("node", "k"), k=[(1, "b", ("row", 3, NUMBER)), (2, "c", TRUTH)])
        narrow = schema_of(("node", "k"), k=[(1, "b", ("row", 3, ("number", 0, 9)))])
        self.raises(NoMeeting, lambda: Library([old]).grow(lacking, must=(0,)), 0, ("c",), "lacks")
        self.raises(NoMeeting, lambda: Library([old]).grow(narrow, must=(0,)), 0, ("b", 0), "bounds")

    def test_twelve_editions(self):
        library = Library(self.editions * 4)
        self.raises(NoMeeting, lambda: library.grow(schema_of(TRUTH), must=(3,)), 3, (), "sort")
        self.raises(NoEdition, lambda: library.grow(schema_of(TRUTH), must=(12,)), 12)
        self.assertEqual(len(library.editions), 12)
        for wire in WIRES:
            self.assertEqual(library.write(5, edition=11, wire=wire)[1], 11)
            self.assertEqual(library.read(library.write(5, edition=11, wire=wire), edition=0), 5)


class TestTold(LibraryCase):
    def test_meets_keeps_and_reader(self):
        for old in range(3):
            for new in range(3):
                one, other = self.editions[old], self.editions[new]
                self.assertEqual(self.library.meets(old, new), meets(one, other))
                self.assertEqual(self.library.keeps(new=new, old=old), keeps(one, other))
                self.assertEqual(self.library.reader(old, new=new), made(one, other))
        self.assertEqual(self.library.meets(1, 0), ("not", (), "bounds", 10))
        self.assertEqual(self.library.keeps(0, 1), ("always", ((("number", 0, 9), ("number", 0, 99)),)))
        self.assertEqual(self.library.reader(0, 1), (("number", 0, 99),))


class TestWhatIsHandedIn(LibraryCase):
    def test_nothing_is_changed(self):
        schema = schema_of(("node", "k"), k=[(1, "a", ("choice", "c")), (2, "on", ("maybe", ("node", "k")), None)], choices={"c": [(1, "x", ("row", 3, NUMBER))]})
        new = schema_of(("node", "n"), n=[(1, "b", ("choice", "c")), (3, "z", ("row", 3, TRUTH), ())], choices={"c": [(1, "y", ("row", 3, NUMBER))]})
        library = Library([schema, new])
        node = Node("k", {"a": Case("x", (1, 2)), "on": None})
        before = told(schema, node)
        for wire in WIRES:
            data = library.write(node, edition=0, wire=wire)
            copy = list(data)
            question = [("field", "b"), ("case", "y"), ("item", 1)]
            self.assertEqual(library.ask(data, question, edition=1)[0], ("number", 2))
            library.read(data, edition=1)
            stream = streamed([data])
            library.shelf(stream, edition=1)
            self.assertEqual((data, stream, len(question)), (copy, streamed([copy]), 3))
            self.assertEqual(data, plainly_written(schema, node, wire))
        self.assertEqual(told(schema, node), before)


if __name__ == "__main__":
    unittest.main()
