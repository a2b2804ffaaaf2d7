"""Readers that are made for two editions: [30], and run on tagged bytes: [31]."""

import random
import unittest

from chances import FAR, chance_edition, chance_schema, chance_thing
from oddities import odd_objects, plain_objects
from plainasks import Trees

from thingwires.errors import NoBytes, NoTurn
from thingwires.library import Library
from thingwires.pairing import pairs_met
from thingwires.readers import made, run_reader
from thingwires.schemas import Schema
from thingwires.things import Case, Node, nodes_met, told
from thingwires.turning import turned

TRUTH = ("truth",)
NUMBER = ("number", None, None)
SMALL = ("number", 0, 5)


def schema_of(root, choices=None, **kinds):
    return Schema(kinds, choices=choices, root=root)


def roots(old, new, **parts):
    return schema_of(old, **parts), schema_of(new, **parts)


class TestMade(unittest.TestCase):
    def makes(self, old, new, *steps):
        found = made(old, new)
        self.assertEqual(repr(found), repr(steps))
        self.assertEqual(Library([new, old]).reader(1, 0), found)
        self.assertEqual(made(new=new, old=old), found)

    def test_simple_steps(self):
        for one, other in [(NUMBER, SMALL), (SMALL, NUMBER), (SMALL, ("number", None, 3)), (TRUTH, TRUTH), (("text", 3), ("text", 9)), (("text", 9), ("text", 0))]:
            self.makes(*roots(one, other), other)

    def test_bad(self):
        self.makes(*roots(TRUTH, NUMBER), ("bad",))
        self.makes(*roots(("row", 2, NUMBER), ("node", "k"), k=[]), ("bad",))
        self.makes(*roots(("row", 2, NUMBER), ("row", 2, TRUTH)), ("row", 2, 1), ("bad",))

    def test_rows(self):
        self.makes(*roots(("row", 9, NUMBER), ("row", 2, SMALL)), ("row", 2, 1), SMALL)
        self.makes(*roots(("row", 0, NUMBER), ("row", 2, SMALL)), ("row", 2, -1))
        self.makes(*roots(("row", 9, NUMBER), ("row", 0, TRUTH)), ("row", 0, -1))
        self.makes(*roots(("row", 0, NUMBER), ("row", 0, TRUTH)), ("row", 0, -1))

    def test_maybes(self):
        self.makes(*roots(("maybe", NUMBER), ("maybe", SMALL)), ("maybe", 1), SMALL)
        self.makes(*roots(("maybe", NUMBER), SMALL), ("force", 1), SMALL)
        self.makes(*roots(NUMBER, ("maybe", SMALL)), ("wrap", 1), SMALL)
        self.makes(*roots(("maybe", TRUTH), NUMBER), ("force", 1), ("bad",))
        self.makes(*roots(TRUTH, ("maybe", ("row", 3, TRUTH))), ("wrap", 1), ("bad",))

    def test_choices(self):
        old = [(4, "d", SMALL), (0, "no", None), (1, "a", NUMBER), (2, "b", None), (3, "c", TRUTH), (5, "e", None), (6, "f", SMALL)]
        new = [(6, "g", NUMBER), (5, "e", None), (3, "cc", None), (2, "bb", TRUTH), (1, "aa", NUMBER), (9, "z", TRUTH)]
        self.makes(schema_of(("choice", "o"), choices={"o": old}), schema_of(("choice", "n"), choices={"n": new}),
                   ("choice", ((1, "aa", 1), (2, "bb", -1), (3, "cc", None), (5, "e", None), (6, "g", 2)), None), NUMBER, NUMBER)
        self.makes(schema_of(("choice", "o"), choices={"o": old}), schema_of(("choice", "n"), choices={"n": [(0, "none", None), (4, "q", SMALL)]}),
                   ("choice", ((0, "none", None), (4, "q", 1)), "none"), SMALL)
        self.makes(schema_of(("choice", "o"), choices={"o": old[:1]}), schema_of(("choice", "n"), choices={"n": [(7, "x", None)]}), ("choice", (), None))

    def test_nodes(self):
        old = schema_of(("node", "k"), k=[
            (9, "z", SMALL, 3), (1, "a", ("maybe", ("node", "k")), None), (2, "b", ("text", 4)), (3, "c", ("row", 2, TRUTH), ()), (4, "d", TRUTH, True),
        ])
        new = schema_of(("node", "n"), n=[
            (12, "l", TRUTH), (11, "k", NUMBER, 7), (9, "y", NUMBER, 1), (1, "aa", ("maybe", ("node", "n"))), (2, "bb", ("text", 4), "q"),
            (5, "h", ("row", 2, TRUTH), ()), (6, "i", ("text", 2)), (3, "c", ("row", 2, TRUTH)),
        ])
        self.makes(old, new, (
            "node", "n", ((1, "aa", 1, (None,)), (2, "bb", 2, ()), (3, "c", 3, ((),)), (9, "y", 5, (3,))), (("h", ()), ("k", 7)), ("i", "l"),
        ), ("maybe", 0), ("text", 4), ("row", 2, 4), TRUTH, NUMBER)
        self.makes(*roots(("node", "k"), ("node", "k"), k=[]), ("node", "k", (), (), ()))

    def test_a_step_for_each_pair(self):
        """Each step is that of its pair, in the order in which they are met, bad ones or not."""
        bad = 0
        for seed in range(200):
            chance = random.Random(seed)
            old = chance_schema(chance)
            new = chance_edition(chance, old)
            steps, pairs = made(old, new), list(pairs_met(old, new))
            self.assertEqual(len(steps), len(pairs))
            self.assertIs(type(steps), tuple)
            for (one, other), step in zip(pairs, steps):
                self.assertIs(type(step), tuple)
                if step[0] in ("force", "wrap"):
                    self.assertEqual("maybe", one[0] if step[0] == "force" else other[0])
                elif step[0] == "bad":
                    bad += 1
                    self.assertNotEqual(one[0], other[0])
                else:
                    self.assertEqual((step[0], step[0]), (one[0], other[0]))
                inner = {"maybe": (one[1:], other[1:]), "force": (one[1:], (other,)), "wrap": ((one,), other[1:])}.get(step[0])
                if inner is not None:
                    self.assertEqual(pairs[step[1]], (inner[0][0], inner[1][0]))
                if step[0] == "node":
                    self.assertEqual(step[1], other[1])
                    for number, name, place, left in step[2]:
                        found = [field for field in old.kinds[one[1]] if field[0] == number][0]
                        like = [field for field in new.kinds[other[1]] if field[0] == number][0]
                        self.assertEqual((pairs[place], left, name), ((found[2], like[2]), found[3:], like[1]))
        self.assertGreater(bad, 20)


class RunCase(unittest.TestCase):
    def runs(self, old, new, thing, edition=0):
        """A reader tells the very thing that turning tells, of whatever edition the bytes tell to be."""
        library = Library([old] * (edition + 1))
        data = library.write(thing, edition=edition)
        want = turned(old, new, thing)
        steps = made(old, new)
        for given in (data, tuple(data), [71, 200, *data[2:]], [71, 255 - edition, *data[2:]]):
            for row in (steps, list(steps)):
                found = run_reader(row, given)
                self.assertEqual(told(new, found), told(new, want))
        self.assertEqual(made(old, new), steps)
        return data

    def refused(self, old, new, thing, path, why):
        data = Library([old]).write(thing, edition=0)
        for run in (lambda: run_reader(made(old, new), data), lambda: Library([old, new]).read(data, edition=1), lambda: turned(old, new, thing)):
            with self.assertRaises(NoTurn) as caught:
                run()
            self.assertEqual((caught.exception.path, caught.exception.why), (path, why))
            self.assertIs(type(caught.exception.path), tuple)


class TestRun(RunCase):
    def test_simple(self):
        for of, other, thing, wrong, why in [
            (NUMBER, SMALL, 5, 6, "bounds"), (NUMBER, ("number", None, -7), -FAR, -6, "bounds"), (NUMBER, ("number", 7, None), FAR, 6, "bounds"),
            (("text", 9), ("text", 3), 'a"b', "abcd", "most"), (("row", 9, NUMBER), ("row", 2, NUMBER), (1, FAR), (1, 2, 3), "most"),
            (("maybe", NUMBER), NUMBER, 5, None, "nothing"), (("maybe", TRUTH), ("maybe", NUMBER), None, None, None), (TRUTH, TRUTH, True, None, None),
            (TRUTH, TRUTH, False, None, None), (("row", 0, TRUTH), ("row", 3, NUMBER), (), None, None),
        ]:
            old, new = roots(of, other)
            self.runs(old, new, thing)
            if why is not None:
                self.refused(old, new, wrong, (), why)

    def test_paths(self):
        old = schema_of(("node", "k"), k=[(1, "a", ("maybe", ("row", 3, ("choice", "c"))))], choices={"c": [(1, "x", ("maybe", NUMBER)), (2, "y", None), (3, "z", None)]})
        new = schema_of(("node", "n"), n=[(1, "b", ("row", 3, ("choice", "c")))], choices={"c": [(1, "xx", SMALL), (2, "yy", TRUTH)]})
        start = ("b", ("inside",))
        self.runs(old, new, Node("k", {"a": (Case("x", 5), Case("x", 0))}))
        self.refused(old, new, Node("k", {"a": None}), ("b",), "nothing")
        self.refused(old, new, Node("k", {"a": (Case("x", 5), Case("x", 6))}), (*start, 1, ("case", "xx"), ("inside",)), "bounds")
        self.refused(old, new, Node("k", {"a": (Case("x", 5), Case("x", None))}), (*start, 1, ("case", "xx")), "nothing")
        self.refused(old, new, Node("k", {"a": (Case("x", 5), Case("y"), Case("z"))}), (*start, 1), "sort")
        self.refused(old, new, Node("k", {"a": (Case("x", 5), Case("z"), Case("y"))}), (*start, 1), "case")

    def test_cases(self):
        old = schema_of(("row", 9, ("choice", "c")), choices={"c": [(0, "no", None), (1, "a", NUMBER), (2, "b", ("text", 9)), (3, "d", None)]})
        new = schema_of(("row", 9, ("choice", "c")), choices={"c": [(0, "none", None), (1, "b", ("maybe", NUMBER)), (2, "plain", None)]})
        self.runs(old, new, (Case("no"), Case("a", -5), Case("b", "lost"), Case("d")))

    def test_defaults(self):
        old = schema_of(("node", "k"), k=[(1, "n", NUMBER, 50), (2, "t", TRUTH, True), (3, "s", ("text", 3), "abc"), (4, "r", ("row", 3, TRUTH), ()),
                                          (5, "m", ("maybe", NUMBER), None)])
        thing = Node("k", {"n": 50, "t": True, "s": "abc", "r": (), "m": None})
        other = Node("k", {"n": 0, "t": False, "s": "", "r": (True,), "m": -7})
        for new in [
            old, schema_of(("node", "k"), k=[]), schema_of(("node", "k"), k=[(n, name, ("maybe", of) if of[0] != "maybe" else of) for n, name, of, _ in old.kinds["k"]]),
            schema_of(("node", "z"), z=[(4, "a", ("row", 9, NUMBER)), (9, "b", TRUTH, True), (8, "c", ("maybe", ("node", "z")), None), (7, "d", ("row", 1, TRUTH), ())]),
        ]:
            self.runs(old, new, thing)
            if new.kinds.get("z") is None:
                self.runs(old, new, other)
        self.refused(old, schema_of(("node", "k"), k=[(1, "n", SMALL, 3)]), thing, ("n",), "bounds")
        self.refused(old, schema_of(("node", "k"), k=[(1, "q", ("maybe", SMALL))]), thing, ("q",), "bounds")
        self.refused(old, schema_of(("node", "k"), k=[(3, "s", ("text", 2), "x")]), thing, ("s",), "most")
        self.refused(old, schema_of(("node", "k"), k=[(3, "s", ("maybe", ("text", 2)))]), thing, ("s",), "most")
        self.refused(old, schema_of(("node", "k"), k=[(2, "t", NUMBER, 3)]), thing, ("t",), "sort")
        self.refused(old, schema_of(("node", "k"), k=[(5, "m", NUMBER, 3)]), thing, ("m",), "nothing")
        self.refused(old, schema_of(("node", "k"), k=[(5, "m", TRUTH, True), (4, "r", ("row", 0, TRUTH))]), thing, ("m",), "nothing")

    def test_lacks_go_ahead(self):
        old = schema_of(("node", "k"), k=[(1, "n", NUMBER, 50), (2, "on", ("maybe", ("node", "k")))])
        new = schema_of(("node", "k"), k=[(1, "n", SMALL), (2, "on", ("maybe", ("node", "k"))), (9, "z", TRUTH), (8, "y", ("text", 3))])
        self.refused(old, new, Node("k", {"n": 50, "on": None}), ("y",), "lacks")

    def test_rings_and_sharing(self):
        kinds = {"k": [(1, "on", ("maybe", ("node", "k"))), (2, "row", ("row", 5, ("node", "k")), ()), (3, "n", NUMBER)]}
        old = schema_of(("node", "k"), **kinds)
        new = schema_of(("node", "q"), q=[(1, "on", ("maybe", ("node", "q"))), (2, "all", ("row", 5, ("maybe", ("node", "q")))), (7, "z", TRUTH, True)])
        one, two, three = [Node("k", {"n": n}) for n in range(3)]
        one.put("on", two)
        two.put("on", one)
        three.put("on", three)
        one.put("row", (two, three, one, three))
        two.put("row", ())
        three.put("row", (two,))
        self.runs(old, new, one)
        found = run_reader(made(old, new), Library([old]).write(one, edition=0))
        self.assertIs(found.fields["on"].fields["on"], found)
        self.assertIs(found.fields["all"][1], found.fields["all"][3])
        # Another one each time.
        self.assertIsNot(run_reader(made(old, new), Library([old]).write(one, edition=0)), found)

    def test_a_node_that_is_turned_to_two_kinds(self):
        old = schema_of(("row", 3, ("choice", "c")), k=[(1, "on", ("node", "k")), (2, "n", NUMBER)], choices={"c": [(1, "a", ("node", "k")), (2, "b", ("node", "k"))]})
        new = schema_of(("row", 3, ("choice", "c")), p=[(1, "on", ("node", "p"))], q=[(2, "n", SMALL), (1, "on", ("node", "p"))],
                        choices={"c": [(1, "a", ("node", "p")), (2, "b", ("node", "q"))]})
        node = Node("k", {"n": 5})
        node.put("on", node)
        self.runs(old, new, (Case("a", node), Case("b", node), Case("b", node)))
        found = run_reader(made(old, new), Library([old]).write((Case("a", node), Case("b", node)), edition=0))
        self.assertEqual([node.kind for node in nodes_met(new, found)], ["p", "q"])
        node.put("n", 6)
        self.refused(old, new, (Case("a", node), Case("a", node), Case("b", node)), (2, ("case", "b"), "n"), "bounds")

    def test_later_places_that_lead_into_what_is_dropped(self):
        old = schema_of(("node", "k"), k=[(1, "gone", ("row", 9, ("node", "l"))), (2, "kept", ("row", 9, ("node", "l"))), (3, "n", NUMBER)],
                        l=[(1, "n", NUMBER), (2, "up", ("maybe", ("node", "l"))), (3, "gone", ("maybe", ("node", "l"))), (4, "k", ("node", "k"))])
        new = schema_of(("node", "k"), k=[(2, "kept", ("row", 9, ("node", "l"))), (3, "n", NUMBER)],
                        l=[(1, "n", ("number", 0, 9)), (2, "up", ("maybe", ("node", "l"))), (4, "k", ("node", "k"))])
        top = Node("k", {"n": 7})
        leaves = [Node("l", {"n": n, "up": None, "gone": None, "k": top}) for n in range(5)]
        leaves[0].put("gone", leaves[1])
        leaves[1].put("up", leaves[2])
        leaves[2].put("gone", leaves[3])
        leaves[3].put("up", leaves[0])
        top.put("gone", (leaves[4], leaves[0], leaves[4]))
        top.put("kept", (leaves[3], leaves[1], leaves[3]))
        self.runs(old, new, top)
        leaves[2].put("n", 50)
        self.refused(old, new, top, ("kept", 1, "up", ("inside",), "n"), "bounds")
        leaves[2].put("n", 2)
        leaves[0].put("n", 51)
        self.refused(old, new, top, ("kept", 0, "up", ("inside",), "n"), "bounds")

    def test_fields_that_are_dropped_may_be_any(self):
        old = schema_of(("node", "k"), k=[(1, "a", ("row", 9, ("text", 9))), (2, "n", NUMBER), (3, "b", ("node", "k")), (4, "c", ("maybe", ("node", "k")))])
        new = schema_of(("node", "k"), k=[(2, "n", NUMBER), (4, "c", ("maybe", ("node", "k")))])
        thing = Node("k", {"a": ("abc", "d"), "n": 5, "c": None})
        thing.put("b", thing)
        data = self.runs(old, new, thing)
        self.assertEqual(data, [71, 0, 1, 4, 1, 0, 0, 13, 2, 0, 0, 4, 3, 97, 98, 99, 0, 0, 2, 1, 100, 2, 0, 0, 1, 10, 3, 0, 0, 4, 2, 0, 0, 2, 4, 0, 0, 1, 0])
        for byte in (0, 1, 2, 37, 128, 255):
            other = [*data[:8], *[byte] * 13, *data[21:30], *[byte] * 4, *data[34:]]
            self.assertEqual(told(new, run_reader(made(old, new), other)), told(new, turned(old, new, thing)))

    def test_by_chance(self):
        many = {"right": 0, "any": 0}
        for seed in range(900):
            chance = random.Random(seed)
            old = chance_schema(chance)
            new = chance_edition(chance, old)
            thing = chance_thing(chance, old)
            try:
                turned(old, new, thing)
            except NoTurn as refused:
                self.refused(old, new, thing, refused.path, refused.why)
                many[refused.why] = many.get(refused.why, 0) + 1
                continue
            many["right"] += 1
            data = self.runs(old, new, thing)
            other = Dropped(old, new, thing).spoilt(chance)
            many["any"] += other != data
            self.assertEqual(told(new, run_reader(made(old, new), other)), told(new, turned(old, new, thing)))
        for why in many:
            self.assertGreater(many[why], 3, many)


class Dropped:
    """Which bytes of fields that new drops hold no node that a later place leads to."""

    def __init__(self, old, new, thing):
        self.old, self.new = old, new
        self.trees = Trees(old, thing)
        self.met = {}
        self.visit(old.root, new.root, self.trees.tree())

    def visit(self, one, other, tree):
        """Go through what new reads of a tree."""
        if other[0] == "maybe" and one[0] != "maybe":
            self.visit(one, other[1], tree)
        elif one[0] == "maybe":
            if "inside" in tree.parts:
                self.visit(one[1], other[1] if other[0] == "maybe" else other, tree.parts["inside"])
        elif one[0] == "row":
            for part in tree.parts.values():
                self.visit(one[2], other[2], part)
        elif one[0] == "choice":
            number, _, inner = [case for case in self.old.choices[one[1]] if case[1] == tree.thing.word][0]
            for like in self.new.choices[other[1]]:
                if like[0] == number and like[2] is not None and inner is not None:
                    self.visit(inner, like[2], tree.parts["content"])
        elif one[0] == "node" and (tree.node, other[1]) not in self.met:
            self.met[(tree.node, other[1])] = True
            fields = {field[0]: field for field in self.old.kinds[one[1]]}
            for number, _, of, *_ in self.new.kinds[other[1]]:
                if number in fields and number in tree.node.parts:
                    self.visit(fields[number][2], of, tree.node.parts[number])

    def spoilt(self, chance):
        """The bytes with others in fields that are dropped and to which nothing leads."""
        data = list(self.trees.bytes)
        kept = {}
        for tree, kind in self.met:
            kept.setdefault(tree, set()).update(field[0] for field in self.new.kinds[kind])
        for tree, numbers in kept.items():
            for number, part in tree.parts.items():
                if number not in numbers and not any(inner in kept for inner in self.within(part)):
                    for at in range(tree.steps[number][-1] + 1, max(self.places(part)) + 1):
                        data[at] = chance.randrange(256)
        return data

    def within(self, tree):
        rows = [tree]
        for part in tree.parts.values():
            rows += self.within(part)
        return rows

    def places(self, tree):
        places = [tree.at, *tree.head, *tree.whole]
        for row in tree.steps.values():
            places += row
        for part in tree.parts.values():
            places += self.places(part)
        return places


class TestRefusals(RunCase):
    def test_what_is_no_bytes_or_another_wire(self):
        schema = schema_of(TRUTH)
        steps = made(schema, schema)
        for data in odd_objects() + plain_objects() + [[True], [71, 0, True], [71, 0, 256], [71, 0, -1], "G\x00\x01", b"G\x00\x01", [], [84, 0, 1], [80, 0, 1],
                                                       [67, 0, 0, 1], [0], [70, 0, 1]]:
            with self.assertRaises(NoBytes) as caught:
                run_reader(steps, data)
            self.assertEqual(caught.exception.why, "wire")
        self.assertIs(run_reader(steps=steps, data=[71, 99, 1]), True)
        for data in ([71], [71, 0], [71, 0, 2]):
            with self.assertRaises(NoBytes):
                run_reader(steps, data)

    def test_bytes_that_are_no_writing(self):
        """Some thing is told, or they are refused with NoBytes or NoTurn."""
        read = 0
        for seed in range(200):
            chance = random.Random(seed)
            old = chance_schema(chance)
            new = chance_edition(chance, old)
            steps = made(old, new)
            data = Library([old]).write(chance_thing(chance, old), edition=0)
            for _ in range(20):
                other = list(data)
                for _ in range(chance.choice([1, 1, 2, 5])):
                    at = chance.randrange(2, len(other) + 1) if len(other) > 2 else 2
                    other[at:at + chance.randrange(3)] = [chance.choice([0, 1, 2, 128, 255, chance.randrange(256)])] * chance.randrange(3)
                try:
                    found = run_reader(steps, other)
                except (NoBytes, NoTurn):
                    continue
                read += 1
                # Whatever it is, it is a thing of new's sorts, so it can be told.
                self.assertIs(type(told(new, found)), tuple)
        self.assertGreater(read, 200)

    def test_long_and_deep_bytes(self):
        on = schema_of(("choice", "c"), choices={"c": [(0, "end", None), (1, "on", ("choice", "c"))]})
        found = run_reader(made(on, on), [71, 0, *[1] * 5000, 0])
        for _ in range(5000):
            self.assertEqual(found.word, "on")
            found = found.content
        self.assertEqual(found.word, "end")
        numbers = schema_of(NUMBER)
        with self.assertRaises(NoBytes):
            run_reader(made(numbers, numbers), [71, 0, *[255] * 66000])
        node = schema_of(("node", "k"), k=[(1, "on", ("node", "k"))])
        for body in ([2, 0, 0, 2], [2, 0, 0, 6, 2, 0, 0, 2], [2, 0, 0, 0], [2, 0, 0, 1], [1, 255, 255, 255, 255, 3], [1, 1, 1, 0, 0, 4, 2, 0, 0, 9]):
            with self.assertRaises(NoBytes):
                run_reader(made(node, node), [71, 1, *body])


if __name__ == "__main__":
    unittest.main()
