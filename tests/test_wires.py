"""The four wires: [18] to [22], and how bytes are read and refused: [23]."""

import random
import unittest

from chances import FAR, chance_schema, chance_thing
from oddities import odd_objects, plain_objects
from plainwires import CODES, plainly_written

from thingwires.errors import NoBytes, NoThing
from thingwires.library import Library
from thingwires.schemas import Schema
from thingwires.things import Case, Node, nodes_met, told

WIRES = ["text", "tagged", "packed", "columns"]
TRUTH = ("truth",)
NUMBER = ("number", None, None)


def schema_of(root, choices=None, **kinds):
    return Schema(kinds, choices=choices, root=root)


class WireCase(unittest.TestCase):
    def writes(self, schema, thing, text, tagged, packed, columns):
        """Each wire writes just this behind its head, and it is read as the thing."""
        bodies = {"text": list(text.encode("ascii")), "tagged": tagged, "packed": packed, "columns": columns}
        library = Library([schema_of(TRUTH), schema])
        for wire, body in bodies.items():
            data = library.write(thing, edition=1, wire=wire)
            self.assertIs(type(data), list)
            self.assertEqual({type(byte) for byte in data}, {int})
            self.assertEqual(data, [CODES[wire], 1, *body], wire)
            self.assertEqual(data, plainly_written(schema, thing, wire, 1))
            for given in (data, tuple(data)):
                found = library.read(given, edition=1)
                self.assertEqual(told(schema, found), told(schema, thing))
            self.assertEqual(library.mark(data), (wire, 1))
        return library

    def both(self, of, thing, text, tagged, packed=None, **parts):
        """Without nodes, what is packed stands in columns behind a 0."""
        packed = tagged if packed is None else packed
        return self.writes(schema_of(of, **parts), thing, text, tagged, packed, [0, *packed])

    def refused(self, library, data, why="thing"):
        for ask in (lambda: library.read(data, edition=0), lambda: library.read(data, edition=1)):
            with self.assertRaises(NoBytes) as caught:
                ask()
            self.assertEqual(caught.exception.why, why, data)


class TestSimple(WireCase):
    def test_numbers_without_bounds(self):
        for number, sevens in [
            (0, [0]), (1, [2]), (-1, [1]), (5, [10]), (-3, [5]), (63, [126]), (-64, [127]), (64, [128, 1]), (-65, [129, 1]),
            (8191, [254, 127]), (-8192, [255, 127]), (8192, [128, 128, 1]), (10 ** 6, [128, 137, 122]),
        ]:
            self.both(NUMBER, number, str(number), sevens)
        for number in (FAR, -FAR, FAR - 1, 10 ** 59):
            library = self.both(NUMBER, number, str(number), plainly_written(schema_of(NUMBER), number, "tagged")[2:])
            self.assertEqual(len(library.write(number, edition=1)), 31)

    def test_numbers_with_one_bound(self):
        for of in [("number", 5, None), ("number", None, 9), ("number", -FAR, None)]:
            self.both(of, 7, "7", [14])

    def test_numbers_with_two_bounds(self):
        for low, high, number, packed in [
            (0, 9, 5, [5]), (-3, 9, -3, [0]), (-3, 9, 9, [12]), (5, 5, 5, []), (-7, -7, -7, []), (0, 1, 1, [1]), (0, 255, 255, [255]),
            (0, 256, 255, [0, 255]), (0, 256, 256, [1, 0]), (1, 256, 256, [255]), (0, 65535, 258, [1, 2]), (0, 65536, 258, [0, 1, 2]),
            (-(2 ** 24), 0, 0, [1, 0, 0, 0]), (1 - 2 ** 24, 0, -1, [255, 255, 254]),
        ]:
            self.both(("number", low, high), number, str(number), plainly_written(schema_of(NUMBER), number, "tagged")[2:], packed)
        tagged = plainly_written(schema_of(NUMBER), FAR, "tagged")[2:]
        self.both(("number", -FAR, FAR), FAR, str(FAR), tagged, list((2 * FAR).to_bytes(26, "big")))
        self.both(("number", FAR - 1, FAR), FAR, str(FAR), tagged, [1])

    def test_truths(self):
        self.both(TRUTH, True, "yes", [1])
        self.both(TRUTH, False, "no", [0])
        library = self.both(TRUTH, False, "no", [0])
        self.assertIs(library.read([71, 1, 1], edition=1), True)
        self.assertIs(library.read([71, 1, 0], edition=1), False)

    def test_texts(self):
        self.both(("text", 9), "", '""', [0])
        self.both(("text", 9), "a b", '"a b"', [3, 97, 32, 98])
        self.both(("text", 9), 'a"b\\', '"a\\"b\\\\"', [4, 97, 34, 98, 92])
        self.both(("text", 9), '\\"', '"\\\\\\""', [2, 92, 34])
        self.both(("text", 40), "~" * 40, '"' + "~" * 40 + '"', [40, *[126] * 40])
        signs = [code for code in range(32, 127) if code != 37]
        for start in range(0, len(signs), 40):
            codes = signs[start:start + 40]
            text = "".join(map(chr, codes))
            shown = text.replace("\\", "\\\\").replace('"', '\\"')
            self.both(("text", 40), text, f'"{shown}"', [len(codes), *codes])

    def test_rows(self):
        self.both(("row", 3, TRUTH), (), "[]", [0])
        self.both(("row", 0, TRUTH), (), "[]", [0])
        self.both(("row", 3, TRUTH), (True,), "[yes]", [1, 0, 0, 1, 1], [1, 1])
        self.both(("row", 3, ("number", -1, 1)), (-1, 1), "[-1,1]", [2, 0, 0, 1, 1, 0, 0, 1, 2], [2, 0, 2])
        self.both(("row", 3, ("row", 2, TRUTH)), ((), (True,)), "[[],[yes]]", [2, 0, 0, 1, 0, 0, 0, 5, 1, 0, 0, 1, 1], [2, 0, 1, 1])
        self.both(("row", 20, ("text", 1)), ("x",) * 20, "[" + ",".join(['"x"'] * 20) + "]",
                  [20, *[0, 0, 2, 1, 120] * 20], [20, *[1, 120] * 20])
        self.both(("row", 20, ("number", 4, 4)), (4,) * 20, "[" + ",".join(["4"] * 20) + "]", [20, *[0, 0, 1, 8] * 20], [20])

    def test_lengths_of_more_than_one_byte(self):
        row = ("x" * 40,) * 7
        shown = ",".join(['"' + "x" * 40 + '"'] * 7)
        items, packed = [0, 0, 41, 40, *[120] * 40] * 7, [40, *[120] * 40] * 7
        self.both(("row", 1, ("row", 7, ("text", 40))), (row,), f"[[{shown}]]", [1, 0, 1, 53, 7, *items], [1, 7, *packed])

    def test_maybes(self):
        self.both(("maybe", TRUTH), None, "-", [0])
        self.both(("maybe", TRUTH), False, "+no", [1, 0])
        self.both(("maybe", NUMBER), -1, "+-1", [1, 1])
        self.both(("maybe", ("row", 2, ("maybe", TRUTH))), (None, True), "+[-,+yes]",
                  [1, 2, 0, 0, 1, 0, 0, 0, 2, 1, 1], [1, 2, 0, 1, 1])

    def test_cases(self):
        choices = {"c": [(99, "z", ("maybe", TRUTH)), (0, "none", None), (7, "n", ("number", 0, 9)), (3, "on", ("choice", "c"))]}
        of = ("choice", "c")
        self.both(of, Case("none"), "none", [0], [0], choices=choices)
        self.both(of, Case("n", 5), "n(5)", [7, 10], [2, 5], choices=choices)
        self.both(of, Case("z"), "z(-)", [99, 0], [3, 0], choices=choices)
        self.both(of, Case("z", True), "z(+yes)", [99, 1, 1], [3, 1, 1], choices=choices)
        self.both(of, Case("on", Case("on", Case("none"))), "on(on(none))", [3, 3, 0], [1, 1, 0], choices=choices)


class TestNodes(WireCase):
    FIELDS = {"k": [(5, "on", ("maybe", ("node", "k")), None), (1, "a", ("number", 0, 9)), (3, "b", ("text", 5), "xy")]}
    SCHEMA = schema_of(("node", "k"), **FIELDS)

    def node(self, **more):
        return Node("k", {"b": "xy", "on": None, "a": 5, **more})

    def test_a_node_of_none(self):
        self.writes(schema_of(("node", "k"), k=[]), Node("k"), "k{}", [1, 0], [0], [1, 0, 0])
        self.writes(schema_of(("row", 2, ("node", "k")), k=[]), (Node("k"), Node("k")), "[k{},k{}]",
                    [2, 0, 0, 2, 1, 0, 0, 0, 2, 1, 0], [2, 0, 0], [2, 0, 0, 2, 0, 1])

    def test_defaults_are_left_out(self):
        self.writes(self.SCHEMA, self.node(), 'k{a:5,b:"xy",on:-}', [1, 1, 1, 0, 0, 1, 10], [0, 5, 2, 120, 121, 0],
                    [1, 0, 0, 0, 0, 1, 5, 0, 0, 3, 2, 120, 121, 0, 0, 1, 0])
        self.writes(self.SCHEMA, self.node(b="x"), 'k{a:5,b:"x",on:-}', [1, 2, 1, 0, 0, 1, 10, 3, 0, 0, 2, 1, 120],
                    [0, 5, 1, 120, 0], [1, 0, 0, 0, 0, 1, 5, 0, 0, 2, 1, 120, 0, 0, 1, 0])

    def test_defaults_of_each_sort(self):
        schema = schema_of(("node", "k"), k=[
            (1, "n", ("number", 0, 1), 1), (2, "t", TRUTH, True), (3, "s", ("text", 2), ""), (4, "r", ("row", 2, TRUTH), ()),
            (90, "m", ("maybe", TRUTH), None),
        ])
        library = self.writes(schema, Node("k", {"n": 1, "t": True, "s": "", "r": (), "m": None}), 'k{n:1,t:yes,s:"",r:[],m:-}',
                              [1, 0], [0, 1, 1, 0, 0, 0],
                              [1, 0, 0, 0, 0, 1, 1, 0, 0, 1, 1, 0, 0, 1, 0, 0, 0, 1, 0, 0, 0, 1, 0])
        self.assertEqual(library.write(Node("k", {"n": 0, "t": False, "s": "a", "r": (True,), "m": False}), edition=1)[2:], [
            1, 5, 1, 0, 0, 1, 0, 2, 0, 0, 1, 0, 3, 0, 0, 2, 1, 97, 4, 0, 0, 5, 1, 0, 0, 1, 1, 90, 0, 0, 2, 1, 0])

    def test_a_ring(self):
        node = self.node()
        node.put("on", node)
        self.writes(self.SCHEMA, node, '&0=k{a:5,b:"xy",on:+&0}', [1, 2, 1, 0, 0, 1, 10, 5, 0, 0, 5, 1, 2, 0, 0, 2],
                    [0, 5, 2, 120, 121, 1, 1], [1, 0, 0, 0, 0, 1, 5, 0, 0, 3, 2, 120, 121, 0, 0, 2, 1, 0])
        found = Library([self.SCHEMA]).read([71, 0, 1, 2, 1, 0, 0, 1, 10, 5, 0, 0, 5, 1, 2, 0, 0, 2], edition=0)
        self.assertIs(found.fields["on"], found)

    def test_a_ring_of_two(self):
        one, two = self.node(), self.node(a=6, b="")
        one.put("on", two)
        two.put("on", one)
        self.writes(self.SCHEMA, one, '&0=k{a:5,b:"xy",on:+k{a:6,b:"",on:+&0}}', [
            1, 2, 1, 0, 0, 1, 10, 5, 0, 0, 22, 1, 1, 3, 1, 0, 0, 1, 12, 3, 0, 0, 1, 0, 5, 0, 0, 5, 1, 2, 0, 0, 2,
        ], [0, 5, 2, 120, 121, 1, 0, 6, 0, 1, 1], [2, 0, 0, 0, 0, 0, 2, 5, 6, 0, 0, 4, 2, 120, 121, 0, 0, 0, 4, 1, 1, 1, 0])

    def test_sharing(self):
        of = ("row", 4, ("row", 4, ("node", "k")))
        schema = schema_of(of, **self.FIELDS)
        alone, one, two = self.node(a=1), self.node(a=2), self.node(a=3)
        thing = ((alone, two), (one, two, one))
        self.writes(schema, thing, '[[k{a:1,b:"xy",on:-},&0=k{a:3,b:"xy",on:-}],[&1=k{a:2,b:"xy",on:-},&0,&1]]', [
            2, 0, 0, 21, 2, 0, 0, 7, 1, 1, 1, 0, 0, 1, 2, 0, 0, 7, 1, 1, 1, 0, 0, 1, 6,
            0, 0, 25, 3, 0, 0, 7, 1, 1, 1, 0, 0, 1, 4, 0, 0, 4, 2, 0, 0, 20, 0, 0, 4, 2, 0, 0, 34,
        ], [2, 2, 0, 1, 2, 120, 121, 0, 0, 3, 2, 120, 121, 0, 3, 0, 2, 2, 120, 121, 0, 2, 3], [
            3, 0, 0, 0, 2, 2, 0, 1, 3, 2, 1, 2, 0, 0, 3, 1, 3, 2, 0, 0, 9, *[2, 120, 121] * 3, 0, 0, 3, 0, 0, 0])

    def test_kinds_by_names(self):
        schema = schema_of(("row", 9, ("choice", "any")), choices={"any": [(1, "b", ("node", "b")), (2, "a", ("node", "a"))]},
                           z=[(1, "x", TRUTH)], b=[(2, "on", ("row", 1, ("node", "a"))), (1, "n", ("number", 0, 0))], a=[(1, "t", TRUTH)])
        deep = Node("a", {"t": True})
        thing = (Case("b", Node("b", {"on": (deep,), "n": 0})), Case("a", Node("a", {"t": False})), Case("a", deep))
        self.writes(schema, thing, "[b(b{n:0,on:[&0=a{t:yes}]}),a(a{t:no}),a(&0)]", [
            3, 0, 0, 23, 1, 1, 2, 1, 0, 0, 1, 0, 2, 0, 0, 11, 1, 0, 0, 7, 1, 1, 1, 0, 0, 1, 1,
            0, 0, 8, 2, 1, 1, 1, 0, 0, 1, 0, 0, 0, 5, 2, 2, 0, 0, 22,
        ], [3, 0, 0, 1, 0, 1, 1, 0, 0, 1, 2], [
            3, 1, 0, 0, 3, 0, 0, 1, 2, 1, 1, 0, 0, 2, 1, 0, 0, 0, 0, 0, 0, 2, 1, 1])

    def test_sixty_three_nodes(self):
        schema = schema_of(("node", "k"), k=[(1, "on", ("maybe", ("node", "k"))), (2, "to", ("row", 20, ("node", "k")))])
        nodes = [Node("k", {"on": None, "to": ()}) for _ in range(63)]
        for at, node in enumerate(nodes):
            node.put("on", nodes[at + 1] if at < 62 else nodes[0])
            node.put("to", tuple(nodes[(at * n) % 63] for n in range(20)))
        library = Library([schema])
        for wire in WIRES:
            data = library.write(nodes[0], edition=0, wire=wire)
            self.assertEqual(data, plainly_written(schema, nodes[0], wire))
            found = library.read(data, edition=0)
            self.assertEqual(told(schema, found), told(schema, nodes[0]))
            self.assertEqual(len(nodes_met(schema, found)), 63)
        # Its length needs all of three bytes' last two, and the places of nodes do, too.
        self.assertGreater(len(library.write(nodes[0], edition=0)), 256 * 16)
        nodes[62].put("on", Node("k", {"on": None, "to": ()}))
        with self.assertRaises(NoThing):
            library.write(nodes[0], edition=0)
        for wire in WIRES:
            self.refused(Library([schema, schema]), plainly_written(schema, nodes[0], wire))

    def test_lengths_that_need_all_three_bytes(self):
        schema = schema_of(("row", 1, ("row", 20, ("row", 20, ("row", 4, ("text", 40))))))
        thing = ((((("x" * 40,) * 4,) * 20,) * 19),)
        library = Library([schema])
        for wire in WIRES:
            data = library.write(thing, edition=0, wire=wire)
            self.assertEqual(data, plainly_written(schema, thing, wire))
            self.assertEqual(library.read(data, edition=0), thing)
            if wire == "tagged":
                self.assertEqual(data[:8], [71, 0, 1, 1, 11, 125, 19, 0])

    def test_two_thousand_places(self):
        schema = schema_of(("row", 20, ("row", 20, ("row", 20, TRUTH))))
        full = (((True,) * 20,) * 20,) * 4
        thing = (*full, ((True,) * 20,) * 14 + ((False,) * 15,))
        places = 1 + 4 * (1 + 20 * 21) + 1 + 14 * 21 + 16
        self.assertEqual(places, 1996)
        thing = (*thing, ((), (), ()))
        library = Library([schema])
        for wire in WIRES:
            data = library.write(thing, edition=0, wire=wire)
            self.assertEqual(data, plainly_written(schema, thing, wire))
            self.assertEqual(library.read(data, edition=0), thing)
        more = (*thing[:-1], ((), (), (), ()))
        with self.assertRaises(NoThing) as caught:
            library.write(more, edition=0)
        self.assertEqual(caught.exception.why, "many")
        for wire in WIRES:
            self.refused(Library([schema, schema]), plainly_written(schema, more, wire))

    def test_deep_things(self):
        schema = schema_of(("choice", "c"), choices={"c": [(0, "end", None), (1, "on", ("choice", "c"))]})

        def deep(steps):
            thing = Case("end")
            for _ in range(steps):
                thing = Case("on", thing)
            return thing

        library = Library([schema])
        for wire in WIRES:
            data = library.write(deep(160), edition=0, wire=wire)
            self.assertEqual(data, plainly_written(schema, deep(160), wire))
            self.assertEqual(library.read(data, edition=0), deep(160))
            self.refused(Library([schema, schema]), plainly_written(schema, deep(161), wire))
        with self.assertRaises(NoThing) as caught:
            library.write(deep(161), edition=0)
        self.assertEqual(caught.exception.why, "deep")
        # What no path is so deep for isn't gone into by calls within calls.
        for body in ([84, 0, *b"on(" * 20000], [71, 0, *[1] * 60000], [80, 0, *[1] * 60000], [67, 0, 0, *[1] * 60000]):
            self.refused(Library([schema, schema]), body)


class TestByChance(WireCase):
    def test_all_wires_write_as_told_and_read_what_they_wrote(self):
        for seed in range(400):
            chance = random.Random(seed)
            schema = chance_schema(chance)
            thing = chance_thing(chance, schema)
            before = told(schema, thing)
            library = Library([chance_schema(chance)] * (seed % 12) + [schema])
            for wire in WIRES:
                data = library.write(thing, edition=seed % 12, wire=wire)
                self.assertEqual(data, plainly_written(schema, thing, wire, seed % 12))
                found = library.read(data, edition=seed % 12)
                self.assertEqual(told(schema, found), before)
                for node in nodes_met(schema, found):
                    self.assertNotIn(node, nodes_met(schema, thing))
            self.assertEqual(told(schema, thing), before)


class TestRefusals(WireCase):
    def test_what_is_no_bytes(self):
        library = Library([schema_of(TRUTH)] * 2)
        for data in odd_objects() + plain_objects() + [
            [True], [71, 0, True], [71, False, 1], [71, 0, 256], [71, 0, -1], [71, 0, 1.0], ["G"], "G\x00\x01", b"G\x00\x01", bytearray(b"G\x00\x01"),
            [71, 0, None], [[71, 0, 1]], {71: 0}, (71, 0, "1"), range(3), [], (), [0], [70, 0, 1], [83, 0], [255], [72, 0, 1], (0, 0, 0),
        ]:
            self.refused(library, data, "wire")
            with self.assertRaises(NoBytes) as caught:
                library.mark(data)
            self.assertEqual(caught.exception.why, "wire")

    def test_an_edition_that_there_is_not(self):
        library = Library([schema_of(TRUTH)] * 2)
        for code in CODES.values():
            for data in ([code], [code, 2], [code, 2, 1], (code, 255), [code, 12, 0, 0]):
                self.refused(library, data, "edition")
                with self.assertRaises(NoBytes) as caught:
                    library.mark(data)
                self.assertEqual(caught.exception.why, "edition")
        self.assertIs(library.read([71, 1, 1], edition=0), True)
        self.assertIs(Library([schema_of(TRUTH)] * 12).read([71, 11, 1], edition=0), True)
        self.refused(Library([schema_of(TRUTH)] * 12), [71, 12, 1], "edition")

    def other_writings(self, of, wire, *bodies, **parts):
        library = Library([schema_of(of, **parts)] * 2)
        for body in bodies:
            body = list(body.encode("latin-1")) if isinstance(body, str) else body
            self.refused(library, [CODES[wire], 0, *body])

    def test_other_writings_as_text(self):
        self.other_writings(NUMBER, "text", "", "+5", "05", "-0", " 5", "5 ", "5.0", "1_0", "--5", "-", "yes", "5\n", "\xb2", "1" * 61, "9" * 5000,
                            "-" + "1" * 61, '"5"')
        self.other_writings(("number", 0, 9), "text", "-1", "10")
        self.other_writings(TRUTH, "text", "", "Yes", "yess", "y", "no ", " no", "1", "noyes", "True")
        self.other_writings(("text", 3), "text", "", '"', 'a', '"a', 'a"', '"a"b"', '"a\\"', '"\\a"', '"a\\\\\\"', "'a'", '"abcd"', '"a""', '"a" ',
                            '"\n"', '"%"', '"\x7f"', '"\xe9"', '"\x00"', '"\\', '\\"')
        self.other_writings(("row", 2, TRUTH), "text", "", "[", "]", "[yes", "yes]", "[,]", "[yes,]", "[,yes]", "[yes no]", "[yes,no,yes]", "[yes, no]",
                            "[[]]", "[yes,no", "()", "[yesno]", "[]]")
        self.other_writings(("maybe", NUMBER), "text", "", "+", "5", "-5", "+-", "--", "++5", "- ", "-+5")
        choices = {"c": [(0, "none", None), (1, "num", NUMBER), (2, "numb", None)]}
        self.other_writings(("choice", "c"), "text", "", "non", "nones", "none()", "num", "num()", "num(5", "num5)", "num(5))", "num (5)", "num((5))",
                            "NUM(5)", "none(5)", "numb(5)", "num(none)", "(5)", choices=choices)
        fields = {"k": [(1, "a", TRUTH), (2, "on", ("maybe", ("node", "k")))], "l": [(1, "a", TRUTH), (2, "on", ("maybe", ("node", "k")))]}
        self.other_writings(
            ("node", "k"), "text", "", "k", "k{", "k{}", "k{a:yes}", "k{on:-,a:yes}", "k{a:yes,on:-", "k{a:yes,on:-,}", "k{a:yes;on:-}", "{a:yes,on:-}",
            "l{a:yes,on:-}", "k{a:yes,on:+l{a:yes,on:-}}", "k {a:yes,on:-}", "k{a:yes,on:-}}", "k{a:yes, on:-}", "&0", "&0=k{a:yes,on:-}", "&=k{a:yes,on:+&}",
            "&1=k{a:yes,on:+&1}", "&00=k{a:yes,on:+&00}", "&0=k{a:yes,on:+&1}", "&0=&0", "&0=k{a:yes,on:+&0=k{a:yes,on:+&0}}", "k{a:yes,on:+&0}",
            "&0=k{a:yes,on:+&1=k{a:yes,on:+&0}}", "&1=k{a:yes,on:+&0=k{a:yes,on:+k{a:no,on:-}}}", "k{a:yes,a:yes,on:-}", "k{b:yes,on:-}", "&0k{a:yes,on:+&0}",
            **fields)

    def test_other_writings_tagged(self):
        self.other_writings(NUMBER, "tagged", [], [128], [128, 0], [130, 0], [2, 0], [2, 2], [255] * 40, [255] * 29 + [1], [128] * 28 + [1] * 2)
        self.other_writings(NUMBER, "tagged", plainly_written(schema_of(NUMBER), FAR + 1, "tagged")[2:],
                            plainly_written(schema_of(NUMBER), -FAR - 1, "tagged")[2:])
        self.other_writings(("number", 0, 9), "tagged", [1], [20], [255])
        self.other_writings(TRUTH, "tagged", [], [2], [255], [0, 0], [1, 0], [128, 0])
        self.other_writings(("text", 3), "tagged", [], [1], [2, 97], [0, 97], [4, 97, 97, 97, 97], [1, 37], [1, 31], [1, 127], [1, 10], [128, 0], [129, 0, 97],
                            [255] * 50, [1, 97, 97])
        self.other_writings(("row", 2, TRUTH), "tagged", [], [1], [1, 0], [1, 0, 0], [1, 0, 0, 0], [1, 0, 0, 1], [1, 0, 0, 2, 1], [1, 0, 0, 2, 1, 1],
                            [1, 0, 0, 0, 1], [1, 0, 0, 1, 1, 1], [1, 0, 0, 1, 2], [3, *[0, 0, 1, 1] * 3], [2, 0, 0, 1, 1], [129, 0, 0, 0, 1, 1], [128, 0],
                            [1, 1, 0, 1, 1])
        self.other_writings(("row", 0, TRUTH), "tagged", [1, 0, 0, 1, 1], [1], [2])
        self.other_writings(("maybe", TRUTH), "tagged", [], [1], [2], [2, 1], [0, 0], [1, 1, 1], [0, 1])
        choices = {"c": [(0, "none", None), (1, "num", NUMBER), (2, "numb", None)]}
        self.other_writings(("choice", "c"), "tagged", [], [3], [1], [0, 0], [2, 2], [1, 2, 2], [128, 0], [129, 0, 2], [255] * 9, choices=choices)
        fields = {"k": [(1, "a", TRUTH, False), (2, "on", ("maybe", ("node", "k")))], "l": [(1, "a", TRUTH, False), (2, "on", ("maybe", ("node", "k")))]}
        self.other_writings(
            ("node", "k"), "tagged", [], [1], [1, 0], [0], [2], [2, 0, 0, 2], [2, 0, 0, 0], [2, 0, 0, 6, 1, 1, 2, 0, 0, 1, 0], [3, 1, 2, 0, 0, 1, 0],
            [1, 1, 1, 0, 0, 1, 1], [1, 2, 1, 0, 0, 1, 0, 2, 0, 0, 1, 0], [1, 2, 2, 0, 0, 1, 0, 1, 0, 0, 1, 1], [1, 2, 2, 0, 0, 1, 0, 2, 0, 0, 1, 0],
            [1, 2, 2, 0, 0, 1, 0, 3, 0, 0, 1, 0], [1, 1, 2, 0, 0, 2, 0, 0], [1, 1, 2, 0, 0, 1, 0, 0], [1, 1, 130, 0, 0, 0, 1, 0], [1, 129, 0, 2, 0, 0, 1, 0],
            [1, 1, 2, 0, 0, 5, 1, 2, 0, 0, 3], [1, 1, 2, 0, 0, 5, 1, 2, 0, 0, 9], [1, 1, 2, 0, 0, 5, 1, 2, 0, 0, 1], [1, 1, 2, 0, 0, 5, 1, 2, 0, 1, 2],
            [1, 1, 2, 0, 0, 5, 1, 2, 0, 0, 11], [1, 1, 2, 0, 0, 4, 1, 2, 0, 0, 2], [1, 9], [1, 255, 255, 255, 255, 255, 255, 3], **fields)

    def test_other_writings_packed(self):
        self.other_writings(NUMBER, "packed", [], [128], [128, 0], [2, 2], [255] * 40)
        self.other_writings(("number", 0, 9), "packed", [], [10], [255], [0, 0], [5, 5])
        self.other_writings(("number", 0, 256), "packed", [], [0], [1, 1], [2, 0], [0, 0, 0], [255, 255])
        self.other_writings(("number", 5, 5), "packed", [0], [5])
        self.other_writings(TRUTH, "packed", [], [2], [0, 0])
        self.other_writings(("text", 3), "packed", [], [1], [4, 97, 97, 97, 97], [1, 37], [1, 127], [128, 0], [255] * 60)
        self.other_writings(("row", 2, TRUTH), "packed", [], [1], [1, 2], [3, 1, 1, 1], [128, 0], [1, 1, 1])
        self.other_writings(("row", 20, ("row", 20, ("row", 20, ("number", 5, 5)))), "packed", [255] * 20 + [1], [20, *[255] * 28 + [1]], [21], [20] * 9)
        choices = {"c": [(3, "none", None), (4, "num", TRUTH)]}
        self.other_writings(("choice", "c"), "packed", [], [2], [3], [4, 1], [1], [0, 0], [1, 1, 1], [128, 0], [255], choices=choices)
        fields = {"k": [(1, "a", TRUTH), (2, "on", ("maybe", ("node", "l")))], "l": [(1, "b", ("maybe", ("node", "k")))]}
        self.other_writings(("node", "k"), "packed", [], [0], [0, 1], [1], [2, 0], [0, 1, 1, 1], [0, 1, 1, 2], [0, 1, 1, 3], [0, 1, 1, 0, 1, 2],
                            [0, 1, 1, 0, 1, 3], [128, 0, 1, 0], [0, 1, 1, 0, 1, 129, 0], [0, 1, 0, 0], [0, 1, 1, 0, 1, 1, 1], **fields)
        self.assertEqual(Library([schema_of(("node", "k"), **fields)]).read([80, 0, 0, 1, 1, 0, 1, 1], edition=0).kind, "k")

    def test_other_writings_in_columns(self):
        self.other_writings(TRUTH, "columns", [], [0], [1], [0, 2], [0, 1, 0], [1, 0, 1], [128, 0, 1], [255, 255, 3, 1], [64, *[0] * 64, 1])
        fields = {"k": [(1, "a", TRUTH), (2, "on", ("maybe", ("node", "l")))], "l": [(1, "b", ("maybe", ("node", "k")))], "m": []}
        right = [2, 0, 1, 0, 0, 0, 1, 1, 0, 0, 2, 1, 1, 0, 0, 2, 1, 0]
        schema = schema_of(("node", "k"), **fields)
        found = Library([schema]).read([67, 0, *right], edition=0)
        self.assertIs(found.fields["on"].fields["b"], found)
        self.other_writings(
            ("node", "k"), "columns", [], [0], [0, 0], [1, 0, 0], right[:-1], [*right, 0], [2, 1, 0, *right[3:]], [2, 0, 1, 1, *right[4:]],
            [2, 0, 1, 2, *right[4:]], [2, 0, 3, *right[3:]], [2, 0, 2, *right[3:]], [2, 0, 0, *right[3:]],
            # A node that nothing leads to, and kinds and nodes in another order.
            [3, 0, 1, 2, *right[3:]], [2, 0, 1, 0, 0, 0, 1, 1, 0, 0, 1, 0, 0, 0, 2, 1, 0], [1, 0, 0, 0, 0, 1, 1, 0, 0, 2, 1, 0], [1, 0, 0, 0, 0, 2, 1, 0, 0, 0],
            [1, 0, 0, 0, 0, 0, 1, 0, 0, 1, 0], [1, 0, 0, 0, 0, 1, 1, 0, 0, 1, 0, 0, 0, 0], [2, 0, 0, 0, 0, 0, 2, 1, 1, 0, 0, 2, 0, 0], **fields)

    def test_bytes_cut_off_put_in_left_out_or_changed_at_each_place(self):
        """What is read all the same is another thing, of which these bytes are the one writing."""
        fields = {"k": [(1, "a", ("number", -300, 300), 7), (2, "on", ("row", 3, ("node", "k")), ()), (4, "c", ("choice", "c")), (9, "s", ("text", 4), "x")],
                  "l": [(1, "to", ("maybe", ("node", "k")))]}
        schema = schema_of(("node", "k"), choices={"c": [(0, "no", None), (3, "at", ("node", "l")), (5, "n", NUMBER)]}, **fields)
        one = Node("k", {"a": 7, "on": (), "c": Case("n", -200), "s": 'a"b'})
        two = Node("k", {"a": 258, "on": (one, one), "c": Case("at", Node("l", {"to": one})), "s": "x"})
        one.put("on", (two,))
        library = Library([schema, schema_of(TRUTH)])
        for wire in WIRES:
            data = library.write(two, edition=0, wire=wire)
            for at in range(len(data) + 1):
                changes = [data[:at]] if at < len(data) else []
                changes += [[*data[:at], byte, *data[at:]] for byte in (0, 1, 2, 34, 48, 92, 128, 255)]
                if at < len(data):
                    changes += [[*data[:at], *data[at + 1:]], [*data[:at], data[at], *data[at:]]]
                    changes += [[*data[:at], byte, *data[at + 1:]] for byte in range(256) if byte != data[at] and (byte < 130 or byte % 32 == 31)]
                for changed in changes:
                    self.is_one_writing_or_refused(library, changed)

    def is_one_writing_or_refused(self, library, data):
        try:
            wire, edition = library.mark(data)
            found = library.read(data, edition=edition)
        except NoBytes as refused:
            self.assertIn(refused.why, ("wire", "edition", "thing"))
            return
        self.assertEqual(plainly_written(library.editions[edition], found, wire, edition), data)

    def test_changes_by_chance(self):
        read = 0
        for seed in range(150):
            chance = random.Random(seed)
            schema = chance_schema(chance)
            library = Library([schema, schema])
            thing = chance_thing(chance, schema)
            for wire in WIRES:
                data = library.write(thing, edition=0, wire=wire)
                for _ in range(12):
                    changed = list(data)
                    for _ in range(chance.choice([1, 1, 2])):
                        at = chance.randrange(len(changed) + 1)
                        new = [chance.choice([0, 1, 2, 128, chance.randrange(256), chance.choice(data)])]
                        changed[at:at + chance.randrange(2)] = chance.choice([new, new, []])
                    self.is_one_writing_or_refused(library, changed)
                    read += 1
        self.assertGreater(read, 1000)


if __name__ == "__main__":
    unittest.main()
