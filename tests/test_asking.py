"""Questions that are asked of bytes: [29]."""

import random
import unittest

from chances import FAR, chance_edition, chance_question, chance_schema, chance_thing
from oddities import odd_objects, plain_objects
from plainasks import PlainAsk

from thingwires.errors import NoBytes, NoEdition, NoQuestion, NoTurn
from thingwires.library import Library
from thingwires.questions import asked
from thingwires.schemas import Schema
from thingwires.things import Case, Node
from thingwires.turning import turned

WIRES = ["text", "tagged", "packed", "columns"]
TRUTH = ("truth",)
NUMBER = ("number", None, None)
INSIDE = ("inside",)


def schema_of(root, choices=None, **kinds):
    return Schema(kinds, choices=choices, root=root)


def field(name):
    return ("field", name)


def item(at):
    return ("item", at)


def case(name):
    return ("case", name)


class AskCase(unittest.TestCase):
    def answers(self, old, new, thing, question, answer, looked):
        """Each wire answers so; tagged bytes are looked at just there, and all others may be any."""
        library = Library([new, old])
        for wire in WIRES:
            data = library.write(thing, edition=1, wire=wire)
            for row in (question, list(question)):
                found = library.ask(data, row, edition=0)
                self.assertEqual(found, (answer, looked if wire == "tagged" else ((0, len(data)),)), wire)
                self.assertEqual([type(part) for part in found[0]], [type(part) for part in answer])
                self.assertEqual({type(part) for part in (found, found[1], *found[1])}, {tuple})
        self.others_may_be_any(library, library.write(thing, edition=1), question, (answer, looked))
        self.assertEqual(PlainAsk(old, new, thing, 1).answered(question), (answer, looked))

    def others_may_be_any(self, library, data, question, found, edition=0):
        free = [at for at in range(len(data)) if not any(start <= at < end for start, end in found[1])]
        chance = random.Random(1)
        rows = [lambda _: 0, lambda _: 255, lambda at: (data[at] + 1) % 256, lambda _: chance.randrange(256), lambda _: chance.randrange(4)]
        for row in rows:
            other = list(data)
            for at in free:
                other[at] = row(at)
            self.assertEqual(library.ask(tuple(other), question, edition=edition), found)

    def refused(self, old, new, thing, question, path, why):
        library = Library([new, old])
        for wire in WIRES:
            data = library.write(thing, edition=1, wire=wire)
            with self.assertRaises(NoTurn) as caught:
                library.ask(data, question, edition=0)
            self.assertEqual((caught.exception.path, caught.exception.why), (path, why), wire)
            self.assertIs(type(caught.exception.path), tuple)
        with self.assertRaises(NoTurn) as caught:
            PlainAsk(old, new, thing, 1).answered(question)
        self.assertEqual((caught.exception.path, caught.exception.why), (path, why))


class TestLooked(AskCase):
    """What is looked at of each sort, asked by the edition that wrote it."""

    def own(self, schema, thing, question, answer, *looked):
        self.answers(schema, schema, thing, question, answer, looked)

    def test_at_the_end(self):
        parts = {"choices": {"c": [(0, "no", None), (2, "n", NUMBER)]}, "k": [(1, "a", TRUTH)]}
        for of, thing, answer, end in [
            (NUMBER, 5, ("number", 5), 3), (NUMBER, -64, ("number", -64), 3), (NUMBER, 64, ("number", 64), 4), (NUMBER, FAR, ("number", FAR), 31),
            (TRUTH, True, ("truth", True), 3), (TRUTH, False, ("truth", False), 3), (("text", 9), "", ("text", ""), 3),
            (("text", 9), 'a"b ', ("text", 'a"b '), 7), (("row", 9, TRUTH), (), ("row", 0), 3), (("row", 9, TRUTH), (True, False), ("row", 2), 3),
            (("maybe", NUMBER), None, ("nothing",), 3), (("maybe", NUMBER), 5, ("maybe",), 3), (("choice", "c"), Case("no"), ("choice", "no"), 3),
            (("choice", "c"), Case("n", 7), ("choice", "n"), 3), (("node", "k"), Node("k", {"a": True}), ("node", "k"), 3),
        ]:
            self.own(schema_of(of, **parts), thing, (), answer, (0, end))

    def test_items(self):
        schema = schema_of(("row", 9, ("row", 9, ("text", 9))))
        thing = (("ab", "c"), (), ("def",))
        data = Library([schema]).write(thing, edition=0)
        self.assertEqual(data, [71, 0, 3, 0, 0, 12, 2, 0, 0, 3, 2, 97, 98, 0, 0, 2, 1, 99, 0, 0, 1, 0, 0, 0, 8, 1, 0, 0, 4, 3, 100, 101, 102])
        self.own(schema, thing, (item(0),), ("row", 2), (0, 7))
        self.own(schema, thing, (item(0), item(0)), ("text", "ab"), (0, 13))
        self.own(schema, thing, (item(0), item(1)), ("text", "c"), (0, 10), (13, 18))
        self.own(schema, thing, (item(0), item(2)), ("none", 1), (0, 7))
        self.own(schema, thing, (item(1),), ("row", 0), (0, 6), (18, 22))
        self.own(schema, thing, (item(1), item(0)), ("none", 1), (0, 6), (18, 22))
        self.own(schema, thing, (item(2), item(0)), ("text", "def"), (0, 6), (18, 21), (22, 33))
        self.own(schema, thing, (item(3),), ("none", 0), (0, 3))
        self.own(schema, thing, (item(FAR), item(FAR)), ("none", 0), (0, 3))

    def test_maybes_and_cases(self):
        schema = schema_of(("maybe", ("choice", "c")), choices={"c": [(0, "no", None), (9, "on", ("row", 3, ("maybe", ("choice", "c"))))]})
        thing = Case("on", (None, Case("no")))
        self.assertEqual(Library([schema]).write(thing, edition=0), [71, 0, 1, 9, 2, 0, 0, 1, 0, 0, 0, 2, 1, 0])
        self.own(schema, thing, (), ("maybe",), (0, 3))
        self.own(schema, thing, (INSIDE,), ("choice", "on"), (0, 4))
        self.own(schema, thing, (INSIDE, case("on")), ("row", 2), (0, 5))
        self.own(schema, thing, (INSIDE, case("on"), item(0)), ("nothing",), (0, 9))
        self.own(schema, thing, (INSIDE, case("on"), item(0), INSIDE), ("none", 3), (0, 9))
        self.own(schema, thing, (INSIDE, case("on"), item(1)), ("maybe",), (0, 8), (9, 13))
        self.own(schema, thing, (INSIDE, case("on"), item(1), INSIDE), ("choice", "no"), (0, 8), (9, 14))
        self.own(schema, thing, (INSIDE, case("on"), item(1), INSIDE, case("on"), item(0)), ("none", 4), (0, 8), (9, 14))
        self.own(schema, None, (), ("nothing",), (0, 3))
        self.own(schema, None, (INSIDE, case("on")), ("none", 0), (0, 3))

    FIELDS = [(1, "a", NUMBER), (2, "b", ("text", 9), "xyz"), (5, "on", ("maybe", ("node", "k"))), (90, "t", ("node", "k"))]
    NODES = schema_of(("node", "k"), k=FIELDS)

    def ring(self):
        one = Node("k", {"a": 5, "b": "xyz"})
        two = Node("k", {"a": 6, "b": "q", "on": None})
        one.put("on", two)
        one.put("t", one)
        two.put("t", two)
        # 71 0, 1 3, 1 0 0 1 10, 5 0 0 24 1 [1 4 1 0 0 1 12 2 0 0 2 1 113 5 0 0 1 0 90 0 0 4 2 0 0 14], 90 0 0 4 2 0 0 2
        return one

    def test_fields(self):
        one = self.ring()
        data = Library([self.NODES]).write(one, edition=0)
        self.assertEqual(data, [71, 0, 1, 3, 1, 0, 0, 1, 10, 5, 0, 0, 27, 1, 1, 4, 1, 0, 0, 1, 12, 2, 0, 0, 2, 1, 113, 5, 0, 0, 1, 0,
                                90, 0, 0, 4, 2, 0, 0, 14, 90, 0, 0, 4, 2, 0, 0, 2])
        own = self.own
        own(self.NODES, one, (), ("node", "k"), (0, 3))
        own(self.NODES, one, (field("a"),), ("number", 5), (0, 9))
        # What isn't there has its default, and all numbers and lengths were looked at to see that.
        own(self.NODES, one, (field("b"),), ("text", "xyz"), (0, 8), (9, 13), (40, 44))
        own(self.NODES, one, (field("on"),), ("maybe",), (0, 8), (9, 14))
        own(self.NODES, one, (field("on"), INSIDE), ("node", "k"), (0, 8), (9, 15))
        own(self.NODES, one, (field("on"), INSIDE, field("a")), ("number", 6), (0, 8), (9, 21))
        own(self.NODES, one, (field("on"), INSIDE, field("b")), ("text", "q"), (0, 8), (9, 20), (21, 27))
        own(self.NODES, one, (field("on"), INSIDE, field("on")), ("nothing",), (0, 8), (9, 20), (21, 25), (27, 32))
        own(self.NODES, one, (field("on"), INSIDE, field("on"), INSIDE), ("none", 3), (0, 8), (9, 20), (21, 25), (27, 32))

    def test_later_places_of_a_node(self):
        one = self.ring()
        own = self.own
        # At the end of a question its first byte alone; where it is gone through its four, and the node itself.
        own(self.NODES, one, (field("t"),), ("node", "k"), (0, 8), (9, 13), (40, 45))
        own(self.NODES, one, (field("t"), field("a")), ("number", 5), (0, 13), (40, 48))
        own(self.NODES, one, (field("t"), field("t")), ("node", "k"), (0, 8), (9, 13), (40, 48))
        own(self.NODES, one, (field("t"), field("t"), field("on")), ("maybe",), (0, 8), (9, 14), (40, 48))
        own(self.NODES, one, (field("on"), INSIDE, field("t")), ("node", "k"), (0, 8), (9, 20), (21, 25), (27, 31), (32, 37))
        own(self.NODES, one, (field("on"), INSIDE, field("t"), field("b")), ("text", "q"),
            (0, 8), (9, 20), (21, 31), (32, 40))
        own(self.NODES, one, (field("t"),) * 9 + (field("b"),), ("text", "xyz"), (0, 8), (9, 13), (40, 48))

    def test_longest_lengths(self):
        schema = schema_of(("node", "k"), k=[(1, "r", ("row", 20, ("row", 20, ("text", 40)))), (2, "n", NUMBER)])
        thing = Node("k", {"r": ((("x" * 40,) * 20,) * 20), "n": 7})
        data = Library([schema]).write(thing, edition=0)
        self.assertEqual(len(data), 17694)
        self.own(schema, thing, (field("n"),), ("number", 7), (0, 8), (17689, 17694))
        self.own(schema, thing, (field("r"), item(19), item(19)), ("text", "x" * 40), (0, 12),
                 *[(9 + 884 * n, 12 + 884 * n) for n in range(1, 19)],
                 (16805, 16812), *[(16809 + 44 * n, 16812 + 44 * n) for n in range(1, 19)], (17645, 17689))


class TestTurned(AskCase):
    """Questions of an edition that reads what another one wrote."""

    def test_numbers_and_texts(self):
        self.answers(schema_of(NUMBER), schema_of(("number", 0, 9)), 9, (), ("number", 9), ((0, 3),))
        self.refused(schema_of(NUMBER), schema_of(("number", 0, 9)), 10, (), (), "bounds")
        self.answers(schema_of(("text", 9)), schema_of(("text", 3)), "abc", (), ("text", "abc"), ((0, 6),))
        self.refused(schema_of(("text", 9)), schema_of(("text", 3)), "abcd", (), (), "most")

    def test_rows(self):
        old, new = schema_of(("row", 9, NUMBER)), schema_of(("row", 2, ("number", 0, 9)))
        self.answers(old, new, (50, 6), (), ("row", 2), ((0, 3),))
        self.answers(old, new, (50, 6), (item(1),), ("number", 6), ((0, 6), (7, 11)))
        self.refused(old, new, (50, 6), (item(0),), (0,), "bounds")
        self.refused(old, new, (1, 2, 3), (), (), "most")
        self.refused(old, new, (1, 2, 3), (item(0),), (), "most")
        self.refused(old, new, (1, 2, 3), (item(7),), (), "most")
        self.answers(schema_of(("row", 0, TRUTH)), schema_of(("row", 2, NUMBER)), (), (item(0),), ("none", 0), ((0, 3),))
        self.answers(schema_of(("row", 2, TRUTH)), schema_of(("row", 0, NUMBER)), (), (item(0),), ("none", 0), ((0, 3),))

    def test_maybe_and_maybe(self):
        old, new = schema_of(("maybe", NUMBER)), schema_of(("maybe", ("number", 0, 9)))
        self.answers(old, new, 50, (), ("maybe",), ((0, 3),))
        self.answers(old, new, None, (), ("nothing",), ((0, 3),))
        self.answers(old, new, 5, (INSIDE,), ("number", 5), ((0, 4),))
        self.refused(old, new, 50, (INSIDE,), (INSIDE,), "bounds")
        self.answers(old, schema_of(("maybe", TRUTH)), 50, (), ("maybe",), ((0, 3),))
        self.refused(old, schema_of(("maybe", TRUTH)), 50, (INSIDE,), (INSIDE,), "sort")

    def test_maybe_and_another(self):
        old, new = schema_of(("maybe", ("row", 9, NUMBER))), schema_of(("row", 3, ("number", 0, 9)))
        self.answers(old, new, (50, 5), (), ("row", 2), ((0, 4),))
        self.answers(old, new, (50, 5), (item(1),), ("number", 5), ((0, 7), (8, 12)))
        self.answers(old, new, (), (item(0),), ("none", 0), ((0, 4),))
        self.refused(old, new, (50, 5), (item(0),), (INSIDE, 0), "bounds")
        self.refused(old, new, (1, 2, 3, 4), (item(0),), (INSIDE,), "most")
        self.refused(old, new, None, (), (), "nothing")
        self.refused(old, new, None, (item(0),), (), "nothing")
        self.refused(old, schema_of(TRUTH), (), (), (INSIDE,), "sort")

    def test_another_and_maybe(self):
        old, new = schema_of(("row", 9, NUMBER)), schema_of(("maybe", ("row", 3, ("maybe", ("number", 0, 9)))))
        self.answers(old, new, (50, 5), (), ("maybe",), ((0, 2),))
        self.answers(old, new, (1, 2, 3, 4, 5), (), ("maybe",), ((0, 2),))
        self.answers(old, new, (50, 5), (INSIDE,), ("row", 2), ((0, 3),))
        self.answers(old, new, (50, 5), (INSIDE, item(0)), ("maybe",), ((0, 6),))
        self.answers(old, new, (50, 5), (INSIDE, item(1), INSIDE), ("number", 5), ((0, 6), (7, 11)))
        self.answers(old, new, (50, 5), (INSIDE, item(2), INSIDE), ("none", 1), ((0, 3),))
        self.refused(old, new, (50, 5), (INSIDE, item(0), INSIDE), (0,), "bounds")
        self.refused(old, new, (1, 2, 3, 4), (INSIDE,), (), "most")
        # What is not looked at is not refused either.
        self.answers(old, schema_of(("maybe", TRUTH)), (), (), ("maybe",), ((0, 2),))
        self.refused(old, schema_of(("maybe", TRUTH)), (), (INSIDE,), (), "sort")
        lacking = schema_of(("maybe", ("node", "k")), k=[(2, "b", TRUTH)])
        self.answers(schema_of(("node", "k"), k=[]), lacking, Node("k"), (), ("maybe",), ((0, 2),))
        self.refused(schema_of(("node", "k"), k=[]), lacking, Node("k"), (INSIDE,), ("b",), "lacks")

    def test_other_sorts(self):
        self.refused(schema_of(TRUTH), schema_of(NUMBER), True, (), (), "sort")
        self.refused(schema_of(TRUTH), schema_of(("row", 3, NUMBER)), True, (item(0),), (), "sort")
        old, new = schema_of(("row", 3, TRUTH)), schema_of(("row", 3, NUMBER))
        self.answers(old, new, (True,), (), ("row", 1), ((0, 3),))
        self.answers(old, new, (True,), (item(1),), ("none", 0), ((0, 3),))
        self.refused(old, new, (True,), (item(0),), (0,), "sort")

    def test_choices(self):
        old = schema_of(("choice", "c"), choices={"c": [(0, "no", None), (1, "a", NUMBER), (2, "b", NUMBER), (3, "d", None), (7, "e", TRUTH)]})
        new = schema_of(("choice", "c"), choices={"c": [(0, "none", None), (1, "b", ("number", 0, 9)), (2, "plain", None), (3, "x", TRUTH)]})
        self.answers(old, new, Case("no"), (), ("choice", "none"), ((0, 3),))
        self.answers(old, new, Case("a", 50), (), ("choice", "b"), ((0, 3),))
        self.answers(old, new, Case("a", 5), (case("b"),), ("number", 5), ((0, 4),))
        self.refused(old, new, Case("a", 50), (case("b"),), (("case", "b"),), "bounds")
        self.answers(old, new, Case("b", 50), (), ("choice", "plain"), ((0, 3),))
        self.answers(old, new, Case("b", 50), (case("b"),), ("none", 0), ((0, 3),))
        self.answers(old, new, Case("e", True), (), ("choice", "none"), ((0, 3),))
        self.answers(old, new, Case("e", True), (case("x"),), ("none", 0), ((0, 3),))
        self.refused(old, new, Case("d"), (), (), "sort")
        self.refused(old, new, Case("d"), (case("b"),), (), "sort")
        fewer = schema_of(("choice", "c"), choices={"c": [(1, "b", NUMBER)]})
        self.refused(old, fewer, Case("e", True), (), (), "case")
        self.refused(old, fewer, Case("no"), (case("b"),), (), "case")

    def test_fields_by_their_numbers(self):
        old = schema_of(("node", "k"), k=[(1, "a", NUMBER), (2, "b", TRUTH), (3, "c", ("text", 3))])
        new = schema_of(("node", "n"), n=[(1, "c", ("maybe", NUMBER)), (3, "a", ("text", 2)), (4, "b", ("row", 3, TRUTH), ())])
        thing = Node("k", {"a": 5, "b": True, "c": "xyz"})
        self.answers(old, new, thing, (), ("node", "n"), ((0, 3),))
        self.answers(old, new, thing, (field("c"),), ("maybe",), ((0, 8),))
        self.answers(old, new, thing, (field("c"), INSIDE), ("number", 5), ((0, 9),))
        self.refused(old, new, thing, (field("a"),), ("a",), "most")
        # Of a field that new alone has all numbers are looked at, too.
        looked = ((0, 8), (9, 13), (14, 18))
        self.answers(old, new, thing, (field("b"),), ("row", 0), looked)
        self.answers(old, new, thing, (field("b"), item(0)), ("none", 1), looked)

    def test_defaults(self):
        kinds = [(1, "n", NUMBER, 50), (2, "t", TRUTH, True), (3, "s", ("text", 3), "abc"), (4, "r", ("row", 3, TRUTH), ()), (5, "m", ("maybe", NUMBER), None)]
        old = schema_of(("node", "k"), k=kinds)
        thing = Node("k", {"n": 50, "t": True, "s": "abc", "r": (), "m": None})
        looked = ((0, 4),)
        for schema in (old, schema_of(("node", "k"), k=[(n, name, of) for n, name, of, _ in kinds])):
            for name, answer in [("n", ("number", 50)), ("t", ("truth", True)), ("s", ("text", "abc")), ("r", ("row", 0)), ("m", ("nothing",))]:
                self.answers(old, schema, thing, (field(name),), answer, looked)
            self.answers(old, schema, thing, (field("r"), item(0)), ("none", 1), looked)
            self.answers(old, schema, thing, (field("m"), INSIDE), ("none", 1), looked)
        # Another default of new's doesn't count where old has the field.
        new = schema_of(("node", "k"), k=[(1, "n", ("number", 0, 9), 3), (2, "t", TRUTH, False), (3, "s", ("text", 2), "q"), (4, "r", ("row", 0, NUMBER)),
                                          (5, "m", NUMBER, 4)])
        self.refused(old, new, thing, (field("n"),), ("n",), "bounds")
        self.answers(old, new, thing, (field("t"),), ("truth", True), looked)
        self.refused(old, new, thing, (field("s"),), ("s",), "most")
        self.answers(old, new, thing, (field("r"),), ("row", 0), looked)
        self.refused(old, new, thing, (field("m"),), ("m",), "nothing")
        new = schema_of(("node", "k"), k=[(1, "n", ("maybe", ("number", 0, 9))), (2, "t", NUMBER), (4, "r", ("maybe", ("row", 2, NUMBER)))])
        self.answers(old, new, thing, (field("n"),), ("maybe",), looked)
        self.refused(old, new, thing, (field("n"), INSIDE), ("n",), "bounds")
        self.refused(old, new, thing, (field("t"),), ("t",), "sort")
        self.answers(old, new, thing, (field("r"), INSIDE), ("row", 0), looked)
        self.answers(old, new, thing, (field("r"), INSIDE, item(0)), ("none", 2), looked)
        # What new alone has is not turned.
        new = schema_of(("node", "k"), k=[(6, "n", ("number", 0, 9), 3), (7, "t", TRUTH, False), (8, "s", ("text", 2), "q"), (9, "r", ("row", 0, NUMBER), ()),
                                          (10, "m", ("maybe", NUMBER), None)])
        for name, answer in [("n", ("number", 3)), ("t", ("truth", False)), ("s", ("text", "q")), ("r", ("row", 0)), ("m", ("nothing",))]:
            self.answers(old, new, thing, (field(name),), answer, looked)
        self.answers(old, new, thing, (field("m"), INSIDE), ("none", 1), looked)

    def test_fields_that_lack(self):
        old = schema_of(("node", "k"), k=[(1, "a", NUMBER), (2, "on", ("row", 3, ("node", "l")))], l=[(1, "a", NUMBER), (3, "up", ("row", 1, ("node", "l")))])
        new = schema_of(("node", "k"), k=[(1, "a", NUMBER), (2, "on", ("row", 3, ("node", "l")))],
                        l=[(1, "a", NUMBER), (9, "z", TRUTH), (5, "y", TRUTH), (4, "x", TRUTH, True), (3, "up", ("row", 1, ("node", "l")))])
        leaf = Node("l", {"a": 1, "up": ()})
        thing = Node("k", {"a": 5, "on": (leaf, leaf)})
        self.answers(old, new, thing, (field("a"),), ("number", 5), ((0, 9),))
        self.answers(old, new, thing, (field("on"),), ("row", 2), ((0, 8), (9, 14)))
        self.refused(old, new, thing, (field("on"), item(0)), ("on", 0, "y"), "lacks")
        self.refused(old, new, thing, (field("on"), item(0), field("a")), ("on", 0, "y"), "lacks")
        self.refused(old, new, thing, (field("on"), item(1), field("x")), ("on", 1, "y"), "lacks")
        self.refused(old, new, thing, (field("on"), item(1)), ("on", 1, "y"), "lacks")

    def test_nothing_but_what_is_passed_is_turned(self):
        old = schema_of(("node", "k"), k=[(1, "a", NUMBER), (2, "b", TRUTH), (3, "c", ("maybe", NUMBER)), (4, "d", ("text", 9))])
        new = schema_of(("node", "k"), k=[(1, "a", ("number", 0, 9)), (2, "b", NUMBER), (3, "c", NUMBER), (4, "d", ("text", 9))])
        thing = Node("k", {"a": 50, "b": True, "c": None, "d": "ok"})
        self.answers(old, new, thing, (field("d"),), ("text", "ok"), ((0, 8), (9, 13), (14, 18), (19, 26)))
        for name, why in [("a", "bounds"), ("b", "sort"), ("c", "nothing")]:
            self.refused(old, new, thing, (field(name),), (name,), why)


class TestRefusals(AskCase):
    SCHEMA = schema_of(("node", "k"), k=[(1, "a", NUMBER), (2, "r", ("row", 3, TRUTH)), (3, "c", ("choice", "c"))], choices={"c": [(0, "no", None), (1, "n", TRUTH)]})

    def raises(self, error, fields, data, question, edition, library=None):
        library = Library([self.SCHEMA] * 2) if library is None else library
        with self.assertRaises(error) as caught:
            library.ask(data, question, edition=edition)
        self.assertEqual(vars(caught.exception), fields)

    def test_their_order(self):
        for edition in [2, -1, True, None, "0", 10 ** 30]:
            self.raises(NoEdition, {"edition": edition}, "no bytes", (("field", "z"),), edition)
        for data in ("no bytes", [], [1], [71], [71, 9, 0]):
            self.raises(NoQuestion, {"at": 0}, data, (("field", "z"),), 1)
        for data in ("no bytes", [], [1], [True], [71, 0, 256]):
            self.raises(NoBytes, {"why": "wire"}, data, (), 1)
        for data in ([71], [84], [71, 9, 0], [80, 2]):
            self.raises(NoBytes, {"why": "edition"}, data, (), 1)
        for code in (84, 71, 80, 67):
            self.raises(NoBytes, {"why": "thing"}, [code, 0], (), 1)

    def test_steps_may_be_any_objects(self):
        data = Library([self.SCHEMA]).write(Node("k", {"a": 1, "r": (), "c": Case("no")}), edition=0)
        for step in odd_objects() + plain_objects() + [("item", True), ("item", -1), ("field", "no"), ("case", "no"), ["field", "a"], ("inside",), ("item", 0)]:
            self.raises(NoQuestion, {"at": 0}, data, (step,), 0)
            self.raises(NoQuestion, {"at": 1}, data, [("field", "a"), step], 0)
        self.raises(NoQuestion, {"at": 1}, data, [("field", "c"), ("case", "no")], 0)
        self.raises(NoQuestion, {"at": 1}, data, [("field", "r"), ("item", True)], 0)

    def test_other_wires_are_read_whole(self):
        library = Library([self.SCHEMA] * 2)
        thing = Node("k", {"a": 1, "r": (True, False), "c": Case("n", True)})
        for wire in ("text", "packed", "columns"):
            data = library.write(thing, edition=1, wire=wire)
            self.assertEqual(library.ask(data, [("field", "a")], edition=0), (("number", 1), ((0, len(data)),)))
            for other in (data[:-1], [*data, 0]):
                self.raises(NoBytes, {"why": "thing"}, other, [("field", "a")], 0)

    def test_tagged_bytes_that_are_no_writing(self):
        """Some answer is told, or they are refused with NoBytes or NoTurn."""
        many = 0
        for seed in range(200):
            chance = random.Random(seed)
            old = chance_schema(chance)
            new = chance_edition(chance, old)
            library = Library([new, old])
            data = library.write(chance_thing(chance, old), edition=1)
            for _ in range(20):
                other = list(data)
                for _ in range(chance.choice([1, 1, 2, 5])):
                    at = chance.randrange(2, len(other) + 1) if len(other) > 2 else 2
                    other[at:at + chance.randrange(3)] = [chance.choice([0, 1, 2, 128, 255, chance.randrange(256)])] * chance.randrange(3)
                question = chance_question(chance, new)
                try:
                    answer, looked = library.ask(other, question, edition=0)
                except (NoBytes, NoTurn):
                    continue
                many += 1
                self.assertIs(type(answer), tuple)
                ends = [end for row in looked for end in row]
                self.assertEqual(ends, sorted(set(ends)))
                self.assertEqual(looked[0][0], 0)
                self.assertLessEqual(ends[-1], len(other))
                self.others_may_be_any(library, other, question, (answer, looked))
        self.assertGreater(many, 500)

    def test_places_that_lead_round(self):
        schema = schema_of(("node", "k"), k=[(1, "on", ("node", "k"))])
        for body in ([2, 0, 0, 2], [2, 0, 0, 6, 2, 0, 0, 2], [2, 0, 0, 1], [2, 0, 0, 0], [2, 255, 255, 255], [1, 1, 1, 0, 0, 4, 2, 0, 0, 8]):
            with self.assertRaises(NoBytes):
                Library([schema] * 2).ask([71, 1, *body], [("field", "on")] * 60, edition=0)
        data = [71, 1, 255, *[255] * 66000]
        self.raises(NoBytes, {"why": "thing"}, data, [], 0, Library([schema_of(NUMBER)] * 2))
        self.raises(NoBytes, {"why": "thing"}, data, [("item", 10 ** 59)], 0, Library([schema_of(("row", 3, NUMBER))] * 2))


class TestByChance(AskCase):
    def test_questions_are_answered_as_of_what_is_read(self):
        whys = {}
        for seed in range(500):
            chance = random.Random(seed)
            old = chance_schema(chance)
            new = chance_edition(chance, old)
            library = Library([new, old])
            thing = chance_thing(chance, old)
            rows = {wire: library.write(thing, edition=1, wire=wire) for wire in WIRES}
            try:
                read = [turned(old, new, thing)]
            except NoTurn:
                read = []
            for _ in range(6):
                question = chance_question(chance, new)
                why = self.are_alike(library, rows, old, new, thing, question, read)
                whys[why] = whys.get(why, 0) + 1
        for why in ("lacks", "sort", "case", "most", "bounds", "nothing", "none", "node", "row", "maybe", "choice", "text", "number", "truth"):
            self.assertGreater(whys.get(why, 0), 3, whys)

    def are_alike(self, library, rows, old, new, thing, question, read):
        try:
            plain = PlainAsk(old, new, thing, 1).answered(question)
        except NoTurn as refused:
            self.assertEqual(read, [])
            for data in rows.values():
                with self.assertRaises(NoTurn) as caught:
                    library.ask(data, question, edition=0)
                self.assertEqual((caught.exception.path, caught.exception.why), (refused.path, refused.why))
            return refused.why
        for wire, data in rows.items():
            found = library.ask(data, question, edition=0)
            self.assertEqual(found, plain if wire == "tagged" else (plain[0], ((0, len(data)),)))
        for whole in read:
            self.assertEqual(asked(new, whole, question), plain[0])
        self.others_may_be_any(library, rows["tagged"], question, plain)
        return plain[0][0]


if __name__ == "__main__":
    unittest.main()
