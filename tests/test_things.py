"""Nodes and cases, and how things are told, compared, copied and made plain: [7], [9] and [10]."""

import random
import unittest

from thingwires.schemas import Schema
from thingwires.things import Case, Node, copied, plain, same, told

SCHEMA = Schema(
    {
        "k": [
            (9, "last", ("maybe", ("node", "k"))),
            (2, "list", ("row", 3, ("node", "l"))),
            (1, "first", ("maybe", ("node", "l"))),
            (3, "pick", ("choice", "c")),
        ],
        "l": [(5, "b", ("number", 0, 9)), (1, "a", ("truth",)), (7, "c", ("maybe", ("node", "k")))],
        "m": [],
    },
    choices={"c": [
        (0, "none", None), (1, "num", ("number", 0, 9)), (2, "on", ("choice", "c")), (3, "at", ("node", "k")),
        (4, "rows", ("row", 3, ("choice", "c"))), (5, "may", ("maybe", ("text", 9))), (6, "words", ("row", 3, ("text", 9))),
    ]},
    root=("node", "k"),
)


def leaf(**more):
    return Node("l", {"b": 1, "a": True, "c": None, **more})


def branch(**more):
    return Node("k", {"last": None, "list": (), "first": None, "pick": Case("none"), **more})


class TestNode(unittest.TestCase):
    def test_fields_are_a_dict_of_its_own(self):
        given = {"a": 1, "b": 2}
        node = Node("k", given)
        self.assertEqual((node.kind, node.fields), ("k", {"a": 1, "b": 2}))
        self.assertIs(type(node.fields), dict)
        given["a"] = 5
        given["c"] = 6
        self.assertEqual(node.fields, {"a": 1, "b": 2})
        node.put("a", 7)
        self.assertEqual(given, {"a": 5, "b": 2, "c": 6})

    def test_fields_as_a_row_of_pairs(self):
        pairs = [("a", 1), ["b", 2]]
        node = Node("k", pairs)
        self.assertEqual(node.fields, {"a": 1, "b": 2})
        pairs.append(("c", 3))
        pairs[1][1] = 5
        self.assertEqual(node.fields, {"a": 1, "b": 2})
        self.assertEqual(Node("k", (("a", 1),)).fields, {"a": 1})

    def test_no_fields(self):
        one, two = Node("k"), Node("k")
        self.assertEqual((one.fields, two.fields), ({}, {}))
        one.put("a", 1)
        self.assertEqual((one.fields, two.fields), ({"a": 1}, {}))
        self.assertEqual(Node("k", ()).fields, {})
        self.assertEqual(Node("k", {}).fields, {})

    def test_arguments_by_their_names(self):
        node = Node(fields={"a": 1}, kind="k")
        node.put(thing=2, name="a")
        self.assertEqual((node.kind, node.fields), ("k", {"a": 2}))

    def test_put(self):
        node = Node("k", {"a": 1})
        self.assertIsNone(node.put("a", 2))
        node.put("b", node)
        self.assertEqual(list(node.fields), ["a", "b"])
        self.assertEqual(node.fields["a"], 2)
        self.assertIs(node.fields["b"], node)

    def test_two_are_equal_just_where_they_are_the_same_one(self):
        one, two = Node("k", {"a": 1}), Node("k", {"a": 1})
        self.assertTrue(one == one)
        self.assertFalse(one == two)
        self.assertTrue(one != two)
        self.assertNotEqual((one,), (two,))
        self.assertNotEqual(Case("a", one), Case("a", two))
        self.assertEqual(Case("a", one), Case("a", one))

    def test_they_may_be_keys(self):
        one, two = Node("k"), Node("k")
        places = {one: 1, two: 2}
        one.put("a", 5)
        self.assertEqual((places[one], places[two], len({one, two, one})), (1, 2, 2))

    def test_any_object_may_be_in_it(self):
        odd = object()
        node = Node(odd, {"a": odd})
        self.assertIs(node.kind, odd)
        self.assertIs(node.fields["a"], odd)


class TestCases(unittest.TestCase):
    def test_fields(self):
        case = Case("a", 5)
        self.assertEqual((case.word, case.content), ("a", 5))
        self.assertEqual((Case("a").word, Case("a").content), ("a", None))
        case = Case(content=(1,), word="b")
        self.assertEqual((case.word, case.content), ("b", (1,)))

    def test_cases_that_are_alike_are_equal(self):
        self.assertTrue(Case("a", 5) == Case("a", 5))
        self.assertFalse(Case("a", 5) != Case("a", 5))
        self.assertEqual(Case("a", (1, Case("b"))), Case("a", (1, Case("b"))))
        self.assertEqual((Case("a"),), (Case("a"),))
        for one, other in [(Case("a"), Case("b")), (Case("a", 1), Case("a", 2)), (Case("a"), Case("a", 0)),
                           (Case("a", Case("b")), Case("a", Case("c"))), (Case("a"), "a"), (Case("a"), ("case", "a", None)),
                           (Case("a"), None)]:
            self.assertFalse(one == other)
            self.assertTrue(one != other)


class TestTold(unittest.TestCase):
    def test_simple(self):
        for thing in (0, -5, 10 ** 60, True, False, "", "a", None, (), (1, 2), ((), (True,)), ("a", None)):
            self.assertEqual(told(SCHEMA, thing), (thing, ()))
            self.assertIs(type(told(SCHEMA, thing)), tuple)
        self.assertIs(told(SCHEMA, True)[0], True)
        self.assertIs(told(SCHEMA, 1)[0], 1)

    def test_cases(self):
        self.assertEqual(told(SCHEMA, Case("none")), (("case", "none", None), ()))
        self.assertEqual(told(SCHEMA, Case("num", 5)), (("case", "num", 5), ()))
        thing = Case("rows", (Case("none"), Case("on", Case("num", 1)), Case("may", None)))
        self.assertEqual(
            told(SCHEMA, thing),
            (("case", "rows", (("case", "none", None), ("case", "on", ("case", "num", 1)), ("case", "may", None))), ()),
        )

    def test_fields_by_rising_numbers(self):
        node = Node("l", {"c": None, "b": 5, "a": False})
        self.assertEqual(told(SCHEMA, node), (("node", 0), (("l", (("a", False), ("b", 5), ("c", None))),)))
        self.assertEqual(told(SCHEMA, Node("m")), (("node", 0), (("m", ()),)))

    def test_nodes_in_the_order_in_which_they_are_met(self):
        deep = branch()
        one, two, three = leaf(b=1, c=deep), leaf(b=2), leaf(b=3)
        top = branch(last=branch(), list=(two, three, one), first=one, pick=Case("at", branch(first=two)))
        leaf_fields = ("l", (("a", True), ("b", 1), ("c", ("node", 2))))
        empty = ("k", (("first", None), ("list", ()), ("pick", ("case", "none", None)), ("last", None)))
        self.assertEqual(told(SCHEMA, top), (("node", 0), (
            ("k", (("first", ("node", 1)), ("list", (("node", 3), ("node", 4), ("node", 1))),
                   ("pick", ("case", "at", ("node", 5))), ("last", ("node", 6)))),
            leaf_fields,
            empty,
            ("l", (("a", True), ("b", 2), ("c", None))),
            ("l", (("a", True), ("b", 3), ("c", None))),
            ("k", (("first", ("node", 3)), ("list", ()), ("pick", ("case", "none", None)), ("last", None))),
            empty,
        )))

    def test_rings(self):
        ring = branch()
        ring.put("last", ring)
        self.assertEqual(told(SCHEMA, ring), (("node", 0), (
            ("k", (("first", None), ("list", ()), ("pick", ("case", "none", None)), ("last", ("node", 0)))),
        )))
        one, two = branch(), leaf()
        one.put("first", two)
        two.put("c", one)
        self.assertEqual(told(SCHEMA, one)[1][1], ("l", (("a", True), ("b", 1), ("c", ("node", 0)))))
        self.assertEqual(told(SCHEMA, two)[1][0][0], "l")

    def test_nodes_in_rows_at_the_top(self):
        one = leaf()
        self.assertEqual(told(SCHEMA, (one, one))[0], (("node", 0), ("node", 0)))
        self.assertEqual(told(SCHEMA, (one, leaf()))[0], (("node", 0), ("node", 1)))
        self.assertEqual(len(told(SCHEMA, (one, leaf()))[1]), 2)

    def test_all_of_it_is_tuples(self):
        def look(thing):
            if isinstance(thing, tuple):
                for part in thing:
                    look(part)
            else:
                self.assertIn(type(thing), (int, bool, str, type(None)))

        look(told(SCHEMA, branch(pick=Case("rows", (Case("at", branch()),)), list=(leaf(), leaf()))))

    def test_the_thing_stays(self):
        node = branch(list=(leaf(),))
        kept = dict(node.fields)
        told(SCHEMA, node)
        self.assertEqual(node.fields, kept)

    def test_many_hundred_steps(self):
        thing = None
        case = Case("none")
        for _ in range(3000):
            thing = branch(last=thing)
            case = Case("rows", (case,))
        self.assertEqual(len(told(SCHEMA, thing)[1]), 3000)
        depth = 0
        shown = told(SCHEMA, case)[0]
        while shown[1] != "none":
            shown = shown[2][0]
            depth += 1
        self.assertEqual(depth, 3000)

    def test_arguments_by_their_names(self):
        self.assertEqual(told(thing=5, schema=SCHEMA), (5, ()))
        self.assertIs(same(other=5, one=5, schema=SCHEMA), True)
        self.assertEqual(copied(thing=5, schema=SCHEMA), 5)
        self.assertEqual(plain(of=("truth",), schema=SCHEMA), False)


class TestSame(unittest.TestCase):
    def alike(self, one, other):
        self.assertIs(same(SCHEMA, one, other), True)
        self.assertIs(same(SCHEMA, other, one), True)

    def unlike(self, one, other):
        self.assertIs(same(SCHEMA, one, other), False)
        self.assertIs(same(SCHEMA, other, one), False)

    def test_simple(self):
        for thing in (0, True, "", "a", None, (), (1, 2), Case("none"), Case("num", 5)):
            self.alike(thing, thing)
        self.alike((1, 2), tuple([1, 2]))
        for one, other in [(1, 2), (True, False), ("a", "b"), ((), (1,)), ((1, 2), (2, 1)), (None, ()), ("", ()), (0, None),
                           (Case("none"), Case("num", 1)), (Case("num", 1), Case("num", 2)), ("", None), ((), Case("none"))]:
            self.unlike(one, other)

    def test_a_truth_is_no_number(self):
        self.unlike(1, True)
        self.unlike(0, False)
        self.unlike((0,), (False,))
        self.unlike(Case("num", 1), Case("num", True))
        self.unlike(leaf(b=1), leaf(b=True))

    def test_nodes(self):
        self.alike(leaf(), leaf())
        self.unlike(leaf(), leaf(b=2))
        self.alike(Node("l", {"b": 1, "a": True, "c": None}), Node("l", {"c": None, "a": True, "b": 1}))
        self.unlike(Node("m"), branch())
        self.unlike(leaf(), None)

    def test_sharing_is_told_apart(self):
        one = leaf()
        self.unlike(branch(list=(one, one)), branch(list=(leaf(), leaf())))
        self.alike(branch(list=(one, one)), branch(list=(one, one)))
        self.unlike((one, leaf(), one), (one, leaf(), leaf()))
        two = leaf()
        self.unlike((one, two, one), (one, two, two))

    def test_rings_of_unlike_length(self):
        one = branch()
        one.put("last", one)
        two = branch(last=branch())
        two.fields["last"].put("last", two)
        self.unlike(one, two)
        other = branch()
        other.put("last", other)
        self.alike(one, other)
        self.unlike(one, branch(last=one))

    def test_many_hundred_steps(self):
        one, other, third = Case("none"), Case("none"), Case("num", 1)
        ring, again = None, None
        for _ in range(3000):
            one, other, third = Case("on", one), Case("on", other), Case("on", third)
            ring, again = branch(last=ring), branch(last=again)
        self.alike(one, other)
        self.unlike(one, third)
        self.alike(ring, again)
        self.unlike(ring, branch(last=again))

    def test_told_alike(self):
        self.alike(("case", "words", "a"), ("case", "words", "a"))


class TestCopied(unittest.TestCase):
    def nodes(self, thing, met=None):
        met = [] if met is None else met
        if isinstance(thing, tuple):
            for part in thing:
                self.nodes(part, met)
        elif isinstance(thing, Case):
            self.nodes(thing.content, met)
        elif isinstance(thing, Node) and thing not in met:
            met.append(thing)
            for part in thing.fields.values():
                self.nodes(part, met)
        return met

    def copy_is_right(self, thing):
        before = told(SCHEMA, thing)
        copy = copied(SCHEMA, thing)
        self.assertEqual(told(SCHEMA, copy), before)
        self.assertEqual(told(SCHEMA, thing), before)
        self.assertTrue(same(SCHEMA, thing, copy))
        ours, theirs = self.nodes(thing), self.nodes(copy)
        self.assertEqual(len(ours), len(theirs))
        self.assertFalse([node for node in theirs if node in ours])
        return copy

    def test_simple(self):
        for thing in (0, True, "a", None, (), (1, 2), (Case("rows", (Case("num", 5), Case("none"))),)):
            self.assertEqual(self.copy_is_right(thing), thing)
        self.assertIs(copied(SCHEMA, True), True)
        self.assertIs(type(copied(SCHEMA, Case("none"))), Case)

    def test_nodes_rings_and_sharing(self):
        one = leaf()
        ring = branch(list=(one, one), pick=Case("at", branch(first=one)))
        ring.put("last", ring)
        one.put("c", ring)
        copy = self.copy_is_right(ring)
        self.assertIs(type(copy), Node)
        self.assertIs(copy.fields["last"], copy)
        self.assertIs(copy.fields["list"][0], copy.fields["list"][1])
        self.assertIs(copy.fields["pick"].content.fields["first"], copy.fields["list"][0])
        self.copy_is_right((ring, one, Case("at", ring)))
        self.copy_is_right(Node("m"))

    def test_a_copy_is_its_own(self):
        one = branch(first=leaf())
        copy = copied(SCHEMA, one)
        copy.put("list", (leaf(),))
        copy.fields["first"].put("b", 9)
        self.assertEqual(one.fields["list"], ())
        self.assertEqual(one.fields["first"].fields["b"], 1)
        one.put("pick", Case("num", 1))
        self.assertEqual(copy.fields["pick"], Case("none"))
        self.assertIsNot(copied(SCHEMA, one), copied(SCHEMA, one))

    def test_many_hundred_steps(self):
        thing = None
        case = Case("none")
        for _ in range(3000):
            thing = branch(last=thing)
            case = Case("on", case)
        self.assertTrue(same(SCHEMA, copied(SCHEMA, thing), thing))
        self.assertTrue(same(SCHEMA, copied(SCHEMA, case), case))

    def test_by_chance(self):
        chance = random.Random(9)
        for _ in range(300):
            leaves = [leaf(b=chance.randrange(10)) for _ in range(3)]
            branches = [branch() for _ in range(4)]
            for node in leaves:
                node.put("c", chance.choice([None, *branches]))
            for node in branches:
                node.put("last", chance.choice([None, *branches]))
                node.put("first", chance.choice([None, *leaves]))
                node.put("list", tuple(chance.choices(leaves, k=chance.randrange(4))))
                node.put("pick", chance.choice([Case("none"), Case("at", chance.choice(branches))]))
            self.copy_is_right(chance.choice(branches))


class TestPlain(unittest.TestCase):
    def test_numbers(self):
        for low, high, least in [
            (None, None, 0), (0, 5, 0), (0, None, 0), (None, 0, 0), (-5, 5, 0), (3, 9, 3), (3, None, 3), (-9, -3, -3),
            (None, -3, -3), (1, 1, 1), (-1, -1, -1), (-5, 0, 0), (-1, 1, 0), (10 ** 59, None, 10 ** 59), (-5, None, 0),
            (None, 5, 0), (1, None, 1), (None, -1, -1),
        ]:
            self.assertEqual(plain(SCHEMA, ("number", low, high)), least)
            self.assertIs(type(plain(SCHEMA, ("number", low, high))), int)

    def test_simple(self):
        self.assertIs(plain(SCHEMA, ("truth",)), False)
        self.assertEqual(plain(SCHEMA, ("text", 5)), "")
        self.assertEqual(plain(SCHEMA, ("row", 5, ("node", "k"))), ())
        self.assertIsNone(plain(SCHEMA, ("maybe", ("node", "k"))))

    def test_the_first_case(self):
        self.assertEqual(plain(SCHEMA, ("choice", "c")), Case("none"))
        schema = Schema(
            {"k": [(1, "a", ("number", 7, 9))]},
            choices={
                "c": [(5, "five", None), (2, "two", ("choice", "d")), (3, "three", ("truth",))],
                "d": [(9, "nine", None), (4, "four", ("number", -9, -4))],
                "e": [(1, "one", ("node", "k"))],
                "f": [(1, "one", ("row", 3, ("choice", "f"))), (2, "two", None)],
                "g": [(1, "one", ("maybe", ("choice", "g")))],
            },
            root=("truth",),
        )
        self.assertEqual(plain(schema, ("choice", "c")), Case("two", Case("four", -4)))
        self.assertEqual(plain(schema, ("choice", "e")).content.fields, {"a": 7})
        self.assertEqual(plain(schema, ("choice", "f")), Case("one", ()))
        self.assertEqual(plain(schema, ("choice", "g")), Case("one", None))

    def test_nodes_have_plain_things_whatever_their_defaults(self):
        schema = Schema(
            {"k": [(3, "c", ("truth",), True), (1, "a", ("number", 0, 9), 5), (2, "b", ("text", 9), "abc")]},
            root=("node", "k"),
        )
        node = plain(schema, ("node", "k"))
        self.assertEqual((node.kind, node.fields), ("k", {"a": 0, "b": "", "c": False}))

    def test_one_node_of_each_kind(self):
        schema = Schema(
            {
                "a": [(1, "self", ("node", "a")), (2, "b", ("node", "b")), (3, "more", ("node", "b")), (4, "c", ("choice", "c"))],
                "b": [(1, "a", ("node", "a")), (2, "e", ("node", "e")), (3, "may", ("maybe", ("node", "b")))],
                "e": [],
            },
            choices={"c": [(1, "at", ("node", "b"))]},
            root=("node", "a"),
        )
        node = plain(schema, ("node", "a"))
        self.assertIs(node.fields["self"], node)
        self.assertIs(node.fields["b"], node.fields["more"])
        self.assertIs(node.fields["c"].content, node.fields["b"])
        self.assertIs(node.fields["b"].fields["a"], node)
        self.assertIsNone(schema.check(node))
        self.assertEqual(told(schema, node), (("node", 0), (
            ("a", (("self", ("node", 0)), ("b", ("node", 1)), ("more", ("node", 1)), ("c", ("case", "at", ("node", 1))))),
            ("b", (("a", ("node", 0)), ("e", ("node", 2)), ("may", None))),
            ("e", ()),
        )))
        self.assertEqual(told(schema, plain(schema, ("node", "b")))[1][0][0], "b")

    def test_each_is_new(self):
        one, two = plain(SCHEMA, ("node", "k")), plain(SCHEMA, ("node", "k"))
        self.assertIsNot(one, two)
        one.put("list", (5,))
        self.assertEqual(two.fields["list"], ())
        self.assertEqual(plain(SCHEMA, ("node", "k")).fields["list"], ())
        self.assertTrue(same(SCHEMA, two, plain(SCHEMA, ("node", "k"))))

    def test_a_plain_thing_is_a_thing(self):
        for root in [("number", 3, None), ("truth",), ("text", 0), ("row", 0, ("truth",)), ("maybe", ("truth",)),
                     ("node", "k"), ("node", "l"), ("node", "m"), ("choice", "c")]:
            schema = Schema(SCHEMA.kinds, choices=SCHEMA.choices, root=root)
            self.assertIsNone(schema.check(plain(schema, root)))


if __name__ == "__main__":
    unittest.main()
