"""Things of one edition that are turned to another: [11] to [14]."""

import random
import unittest

from chances import FAR, chance_edition, chance_schema, chance_thing

from thingwires.errors import NoTurn
from thingwires.questions import asked
from thingwires.schemas import Schema
from thingwires.things import Case, Node, copied, same, told
from thingwires.turning import turned

SORTS = [
    ("number", 0, 9), ("truth",), ("text", 5), ("row", 3, ("number", 0, 9)), ("maybe", ("number", 0, 9)), ("node", "k"),
    ("choice", "c"),
]


def schema_of(root, choices=None, **kinds):
    return Schema(kinds, choices=choices, root=root)


def roots(old, new, **parts):
    """Two schemas that are alike but for their roots."""
    return schema_of(old, **parts), schema_of(new, **parts)


class TurnCase(unittest.TestCase):
    def turns(self, old, new, thing, to):
        found = turned(old, new, thing)
        self.assertEqual(told(new, found), told(new, to))
        self.assertTrue(same(new, found, to))
        return found

    def refused(self, old, new, thing, path, why):
        with self.assertRaises(NoTurn) as caught:
            turned(old, new, thing)
        self.assertEqual((caught.exception.path, caught.exception.why), (path, why))
        self.assertIs(type(caught.exception.path), tuple)
        self.assertIs(type(caught.exception.why), str)


class TestSimple(TurnCase):
    def test_numbers(self):
        for low, high, right, wrong in [
            (0, 9, (0, 5, 9), (-1, 10, FAR, -FAR)), (None, None, (0, FAR, -FAR), ()), (None, 3, (3, -FAR), (4, FAR)),
            (3, None, (3, FAR), (2, -FAR)), (-5, -5, (-5,), (-6, -4, 5)), (-FAR, FAR, (FAR, -FAR), ()),
            (1 - FAR, FAR - 1, (0,), (FAR, -FAR)),
        ]:
            old, new = roots(("number", None, None), ("number", low, high))
            for number in right:
                self.turns(old, new, number, number)
                self.assertIs(type(turned(old, new, number)), int)
            for number in wrong:
                self.refused(old, new, number, (), "bounds")

    def test_truths(self):
        old, new = roots(("truth",), ("truth",))
        self.assertIs(turned(old, new, True), True)
        self.assertIs(turned(old, new, False), False)

    def test_texts(self):
        old, new = roots(("text", 40), ("text", 3))
        for text in ("", "a", "abc", '"\\ '):
            self.turns(old, new, text, text)
        for text in ("abcd", "x" * 40):
            self.refused(old, new, text, (), "most")
        old, new = roots(("text", 3), ("text", 0))
        self.turns(old, new, "", "")
        self.refused(old, new, "a", (), "most")

    def test_rows(self):
        old, new = roots(("row", 5, ("number", 0, 9)), ("row", 2, ("number", 0, 5)))
        self.turns(old, new, (), ())
        self.turns(old, new, (1, 2), (1, 2))
        self.refused(old, new, (1, 2, 3), (), "most")
        self.refused(old, new, (6, 7), (0,), "bounds")
        self.refused(old, new, (5, 7), (1,), "bounds")
        self.refused(old, new, (9, 9, 9), (), "most")
        self.assertIs(type(turned(old, new, (1,))), tuple)

    def test_rows_in_rows(self):
        old, new = roots(("row", 3, ("row", 3, ("text", 5))), ("row", 3, ("row", 2, ("text", 2))))
        self.turns(old, new, (("a", "b"), (), ("cc",)), (("a", "b"), (), ("cc",)))
        self.refused(old, new, ((), ("a",), ("a", "b", "ccc")), (2,), "most")
        self.refused(old, new, (("a", "bbb"), ("a", "b", "c")), (0, 1), "most")

    def test_rows_whose_most_is_none(self):
        for of in [("text", 3), ("node", "k"), ("choice", "c")]:
            old, new = roots(("row", 0, ("number", 0, 9)), ("row", 3, of), k=[], choices={"c": [(1, "a", None)]})
            self.turns(old, new, (), ())
            self.turns(new, old, (), ())
            self.refused(new, old, ("a",), (), "most")

    def test_other_sorts(self):
        parts = {"k": [(1, "a", ("truth",))], "choices": {"c": [(1, "a", None)]}}
        things = [5, True, "a", (5,), 5, Node("k", {"a": True}), Case("a")]
        for at, one in enumerate(SORTS):
            for of, other in enumerate(SORTS):
                old, new = roots(one, other, **parts)
                if at == of or "maybe" in (one[0], other[0]) and "number" in (one[0], other[0]):
                    self.turns(old, new, things[at], things[at])
                else:
                    self.refused(old, new, things[at], (("inside",),) if one[0] == "maybe" else (), "sort")

    def test_empty_rows_of_other_sorts(self):
        old, new = roots(("row", 3, ("number", 0, 9)), ("row", 3, ("truth",)))
        self.turns(old, new, (), ())
        self.refused(old, new, (1, 2), (0,), "sort")

    def test_arguments_by_their_names(self):
        old, new = roots(("number", 0, 9), ("number", 0, 5))
        self.assertEqual(turned(thing=5, new=new, old=old), 5)


class TestMaybes(TurnCase):
    def test_maybe_and_maybe(self):
        old, new = roots(("maybe", ("number", 0, 9)), ("maybe", ("number", 0, 5)))
        self.turns(old, new, None, None)
        self.turns(old, new, 5, 5)
        self.refused(old, new, 6, (("inside",),), "bounds")

    def test_maybe_and_none(self):
        old, new = roots(("maybe", ("text", 5)), ("text", 2))
        self.turns(old, new, "ab", "ab")
        self.refused(old, new, None, (), "nothing")
        self.refused(old, new, "abc", (("inside",),), "most")

    def test_none_and_maybe(self):
        old, new = roots(("text", 5), ("maybe", ("text", 2)))
        self.turns(old, new, "ab", "ab")
        self.refused(old, new, "abc", (), "most")

    def test_nothing_goes_ahead_of_another_sort(self):
        old, new = roots(("maybe", ("text", 5)), ("truth",))
        self.refused(old, new, None, (), "nothing")
        self.refused(old, new, "a", (("inside",),), "sort")
        old, new = roots(("maybe", ("text", 5)), ("maybe", ("truth",)))
        self.turns(old, new, None, None)
        self.refused(old, new, "a", (("inside",),), "sort")
        old, new = roots(("truth",), ("maybe", ("text", 5)))
        self.refused(old, new, True, (), "sort")

    def test_maybes_in_rows_in_maybes(self):
        old, new = roots(("maybe", ("row", 3, ("maybe", ("number", 0, 9)))), ("row", 3, ("number", 0, 5)))
        self.turns(old, new, (1, 2, 3), (1, 2, 3))
        self.refused(old, new, (1, None, 9), (("inside",), 1), "nothing")
        self.refused(old, new, (1, 9, None), (("inside",), 1, ("inside",)), "bounds")
        old, new = roots(("row", 3, ("number", 0, 9)), ("maybe", ("row", 3, ("maybe", ("number", 0, 5)))))
        self.turns(old, new, (1, 2, 3), (1, 2, 3))
        self.refused(old, new, (1, 9), (1,), "bounds")


class TestChoices(TurnCase):
    OLD = [
        (0, "none", None), (1, "one", ("number", 0, 9)), (2, "two", None), (3, "three", ("text", 3)), (4, "four", None),
        (5, "five", ("choice", "c")),
    ]

    def editions(self, *cases):
        return (
            schema_of(("choice", "c"), choices={"c": self.OLD}),
            schema_of(("choice", "d"), choices={"d": cases}),
        )

    def test_by_numbers(self):
        old, new = self.editions(
            (5, "none", ("choice", "d")), (1, "two", ("number", 0, 5)), (2, "one", None), (0, "other", None))
        self.turns(old, new, Case("one", 5), Case("two", 5))
        self.turns(old, new, Case("two"), Case("one"))
        self.turns(old, new, Case("none"), Case("other"))
        self.turns(old, new, Case("five", Case("five", Case("one", 3))), Case("none", Case("none", Case("two", 3))))
        self.refused(old, new, Case("one", 6), (("case", "two"),), "bounds")
        self.refused(old, new, Case("five", Case("five", Case("one", 6))),
                     (("case", "none"), ("case", "none"), ("case", "two")), "bounds")

    def test_case_0_stands_for_those_that_new_has_not(self):
        old, new = self.editions((0, "else", None), (9, "one", ("number", 0, 9)))
        for case in (Case("none"), Case("one", 5), Case("two"), Case("three", "abc"), Case("five", Case("two"))):
            self.turns(old, new, case, Case("else"))

    def test_no_case_0(self):
        old, new = self.editions((2, "two", None), (5, "on", ("choice", "d")), (9, "one", ("number", 0, 9)))
        self.turns(old, new, Case("two"), Case("two"))
        for case in (Case("none"), Case("one", 5), Case("three", "abc")):
            self.refused(old, new, case, (), "case")
            self.refused(old, new, Case("five", case), (("case", "on"),), "case")

    def test_content_of_one_alone(self):
        old, new = self.editions((0, "none", None), (1, "one", None), (2, "two", ("truth",)), (5, "on", ("choice", "d")))
        self.turns(old, new, Case("one", 5), Case("one"))
        self.refused(old, new, Case("two"), (), "sort")
        self.refused(old, new, Case("five", Case("two")), (("case", "on"),), "sort")

    def test_content_of_maybe_is_not_given(self):
        old, new = self.editions((2, "two", ("maybe", ("truth",))))
        self.refused(old, new, Case("two"), (), "sort")

    def test_content_of_another_sort(self):
        old, new = self.editions((1, "uno", ("truth",)))
        self.refused(old, new, Case("one", 5), (("case", "uno"),), "sort")

    def test_the_choice_is_a_new_one(self):
        old, new = self.editions(*[(*case[:2], ("choice", "d") if case[0] == 5 else case[2]) for case in self.OLD])
        case = Case("five", Case("two"))
        found = self.turns(old, new, case, Case("five", Case("two")))
        self.assertIs(type(found), Case)
        case.content = Case("one", 3)
        case.word = "none"
        self.assertEqual(found, Case("five", Case("two")))


class TestNodes(TurnCase):
    def test_fields_by_numbers(self):
        old = schema_of(("node", "k"), k=[(1, "a", ("number", 0, 9)), (2, "b", ("truth",)), (3, "c", ("text", 3))])
        new = schema_of(("node", "l"), l=[(3, "b", ("text", 2)), (1, "c", ("maybe", ("number", 0, 5)))], k=[])
        thing = Node("k", {"a": 5, "b": True, "c": "x"})
        found = self.turns(old, new, thing, Node("l", {"b": "x", "c": 5}))
        self.assertEqual((found.kind, found.fields), ("l", {"b": "x", "c": 5}))
        self.assertIs(type(found), Node)
        self.refused(old, new, Node("k", {"a": 6, "b": True, "c": "xyz"}), ("c",), "bounds")
        self.refused(old, new, Node("k", {"a": 5, "b": True, "c": "xyz"}), ("b",), "most")

    def test_what_old_has_not(self):
        defaults = [
            (1, "n", ("number", None, 0), -FAR), (2, "t", ("truth",), True), (3, "s", ("text", 3), "a\\\""),
            (4, "r", ("row", 3, ("node", "k")), ()), (5, "m", ("maybe", ("node", "k")), None),
        ]
        old, new = schema_of(("node", "k"), k=[(9, "z", ("truth",))]), schema_of(("node", "k"), k=defaults)
        found = self.turns(old, new, Node("k", {"z": True}),
                           Node("k", {"n": -FAR, "t": True, "s": "a\\\"", "r": (), "m": None}))
        self.assertIs(found.fields["t"], True)
        for at in range(5):
            rows = [field[:3] if place >= at else field for place, field in enumerate(defaults)]
            new = schema_of(("node", "k"), k=rows[::-1])
            self.refused(old, new, Node("k", {"z": True}), (defaults[at][1],), "lacks")

    def test_a_default_is_for_what_old_has_not_alone(self):
        old = schema_of(("node", "k"), k=[(1, "a", ("maybe", ("number", 0, 9)), None), (2, "b", ("truth",), True)])
        new = schema_of(("node", "k"), k=[(1, "a", ("number", 0, 5), 3), (2, "b", ("truth",), True)])
        self.turns(old, new, Node("k", {"a": 4, "b": False}), Node("k", {"a": 4, "b": False}))
        self.refused(old, new, Node("k", {"a": None, "b": False}), ("a",), "nothing")
        self.refused(old, new, Node("k", {"a": 9, "b": False}), ("a", ("inside",)), "bounds")

    def test_lacks_go_ahead_of_all_else_in_a_node(self):
        old = schema_of(("node", "k"), k=[(1, "a", ("number", 0, 9)), (9, "on", ("maybe", ("node", "k")))])
        new = schema_of(("node", "k"), k=[
            (1, "a", ("truth",)), (5, "lack", ("maybe", ("truth",))), (7, "least", ("truth",), True), (8, "b", ("truth",)),
            (9, "on", ("maybe", ("node", "k"))),
        ])
        self.refused(old, new, Node("k", {"a": 5, "on": None}), ("lack",), "lacks")

    def test_lacks_within_come_in_their_turn(self):
        old = schema_of(("node", "k"), k=[(1, "b", ("node", "l")), (2, "n", ("number", 0, 9)), (3, "c", ("node", "l"))], l=[])
        new = schema_of(("node", "k"), k=[(1, "b", ("node", "m")), (2, "n", ("number", 0, 5)), (3, "c", ("node", "l"))],
                        l=[(1, "x", ("truth",))], m=[])
        thing = Node("k", {"b": Node("l"), "n": 9, "c": Node("l")})
        self.refused(old, new, thing, ("n",), "bounds")
        thing.put("n", 3)
        self.refused(old, new, thing, ("c", "x"), "lacks")

    def test_depth_first(self):
        fields = [(1, "on", ("maybe", ("node", "k"))), (2, "n", ("number", 0, 9)), (3, "also", ("row", 3, ("node", "k")))]
        old = schema_of(("node", "k"), k=fields)
        new = schema_of(("node", "k"), k=[fields[0], (2, "n", ("number", 0, 5)), fields[2]])

        def node(number, on=None, also=()):
            return Node("k", {"on": on, "n": number, "also": also})

        self.refused(old, new, node(9, on=node(9, on=node(1, also=(node(1), node(8))))),
                     ("on", ("inside",), "on", ("inside",), "also", 1, "n"), "bounds")
        self.refused(old, new, node(9, on=node(1, also=(node(1), node(8)))), ("on", ("inside",), "also", 1, "n"), "bounds")
        self.refused(old, new, node(9, on=node(1)), ("n",), "bounds")
        self.refused(old, new, node(1, also=(node(1), node(9, on=node(1)), node(9))), ("also", 1, "n"), "bounds")

    def test_paths_have_new_names_and_old_maybes(self):
        old = schema_of(("node", "k"), choices={"c": [(1, "pick", ("row", 2, ("maybe", ("node", "l"))))]},
                        k=[(7, "a", ("choice", "c"))], l=[(8, "b", ("number", 0, 9))])
        new = schema_of(("maybe", ("node", "x")), choices={"y": [(1, "take", ("row", 2, ("node", "z")))]},
                        x=[(7, "f", ("maybe", ("choice", "y")))], z=[(8, "g", ("maybe", ("number", 0, 5)))])
        thing = Node("k", {"a": Case("pick", (Node("l", {"b": 5}), Node("l", {"b": 6})))})
        self.refused(old, new, thing, ("f", ("case", "take"), 1, ("inside",), "g"), "bounds")
        self.refused(old, new, Node("k", {"a": Case("pick", (None,))}), ("f", ("case", "take"), 0), "nothing")
        thing.fields["a"].content[1].put("b", 0)
        self.turns(old, new, thing, Node("x", {"f": Case("take", (Node("z", {"g": 5}), Node("z", {"g": 0})))}))

    def test_the_thing_stays(self):
        schema = schema_of(("node", "k"), k=[(1, "on", ("maybe", ("node", "k"))), (2, "r", ("row", 3, ("node", "k")))])
        thing = Node("k", {"on": None, "r": ()})
        thing.put("on", thing)
        thing.put("r", (thing, Node("k", {"on": None, "r": ()})))
        before = told(schema, thing)
        found, other = turned(schema, schema, thing), turned(schema, schema, thing)
        self.assertEqual(told(schema, thing), before)
        self.assertEqual(told(schema, found), before)
        self.assertIsNot(found, thing)
        self.assertIsNot(found, other)
        self.assertIsNot(found.fields["r"][1], thing.fields["r"][1])
        thing.put("on", None)
        thing.fields["r"][1].put("r", (thing,))
        self.assertEqual(told(schema, found), before)
        found.put("r", ())
        self.assertEqual(told(schema, other), before)

    def test_schemas_stay(self):
        old = schema_of(("node", "k"), k=[(1, "a", ("truth",))])
        new = schema_of(("node", "k"), k=[(2, "b", ("row", 2, ("truth",)), ())])
        found = turned(old, new, Node("k", {"a": True}))
        found.put("b", (True,))
        self.assertEqual(turned(old, new, Node("k", {"a": True})).fields, {"b": ()})
        self.assertEqual(new.kinds, {"k": ((2, "b", ("row", 2, ("truth",)), ()),)})


class TestRings(TurnCase):
    OLD = schema_of(("node", "k"), k=[
        (1, "on", ("maybe", ("node", "k"))), (2, "also", ("row", 9, ("node", "k"))), (3, "n", ("number", 0, 9))])
    SAME = schema_of(("node", "a"), a=[
        (1, "to", ("maybe", ("node", "a"))), (2, "and", ("row", 9, ("node", "a"))), (3, "m", ("number", 0, 5))])
    TWO = schema_of(
        ("node", "a"),
        a=[(1, "to", ("maybe", ("node", "b"))), (2, "and", ("row", 9, ("node", "a"))), (3, "m", ("number", 0, 7))],
        b=[(1, "to", ("maybe", ("node", "a"))), (3, "m", ("number", 0, 5))],
    )

    def node(self, number=1, on=None, also=()):
        return Node("k", {"on": on, "n": number, "also": also})

    def test_rings(self):
        node = self.node()
        node.put("on", node)
        found = turned(self.OLD, self.SAME, node)
        self.assertIs(found.fields["to"], found)
        one, two = self.node(1), self.node(2)
        one.put("on", two)
        two.put("on", one)
        found = turned(self.OLD, self.SAME, one)
        self.assertIs(found.fields["to"].fields["to"], found)
        self.assertIsNot(found.fields["to"], found)
        self.assertEqual(len(told(self.SAME, found)[1]), 2)

    def test_sharing(self):
        one = self.node(3)
        found = turned(self.OLD, self.SAME, self.node(on=one, also=(one, self.node(3), one)))
        row = found.fields["and"]
        self.assertIs(row[0], row[2])
        self.assertIs(row[0], found.fields["to"])
        self.assertIsNot(row[0], row[1])

    def test_two_kinds_make_two_nodes(self):
        one = self.node(3)
        found = turned(self.OLD, self.TWO, self.node(on=one, also=(one, one)))
        self.assertEqual((found.fields["to"].kind, found.fields["to"].fields), ("b", {"to": None, "m": 3}))
        self.assertEqual(found.fields["and"][0].fields, {"to": None, "and": (), "m": 3})
        self.assertIs(found.fields["and"][0], found.fields["and"][1])

    def test_a_ring_of_one_becomes_a_ring_of_two(self):
        node = self.node()
        node.put("on", node)
        node.put("also", (node,))
        found = turned(self.OLD, self.TWO, node)
        self.assertEqual(told(self.TWO, found), (("node", 0), (
            ("a", (("to", ("node", 1)), ("and", (("node", 0),)), ("m", 1))),
            ("b", (("to", ("node", 0)), ("m", 1))),
        )))
        self.assertIs(found.fields["to"].fields["to"], found)
        self.assertIs(found.fields["and"][0], found)

    def test_refused_as_the_second_kind_alone(self):
        one = self.node(6)
        self.turns(self.OLD, self.TWO, self.node(also=(one, one)), Node("a", {"to": None, "m": 1, "and": (
            shared := Node("a", {"to": None, "m": 6, "and": ()}), shared)}))
        self.refused(self.OLD, self.TWO, self.node(also=(one, self.node(on=one))), ("and", 1, "to", ("inside",), "m"), "bounds")
        ring = self.node(6)
        ring.put("on", ring)
        self.refused(self.OLD, self.TWO, ring, ("to", ("inside",), "m"), "bounds")
        ring.put("n", 8)
        ring.put("also", (ring,))
        self.refused(self.OLD, self.TWO, ring, ("to", ("inside",), "m"), "bounds")

    def test_lacks_of_the_second_kind_alone(self):
        new = schema_of(
            ("node", "a"), a=[(1, "to", ("maybe", ("node", "b"))), (2, "and", ("row", 9, ("node", "a")))],
            b=[(1, "to", ("maybe", ("node", "a"))), (9, "lack", ("truth",))],
        )
        ring = self.node()
        ring.put("also", (ring, ring))
        self.assertEqual(len(told(new, turned(self.OLD, new, ring))[1]), 1)
        ring.put("also", (ring, self.node(on=ring)))
        self.refused(self.OLD, new, ring, ("and", 1, "to", ("inside",), "lack"), "lacks")

    def test_a_node_that_new_drops_is_not_gone_into(self):
        new = schema_of(("node", "a"), a=[(1, "to", ("maybe", ("node", "a"))), (3, "m", ("number", 0, 5))])
        self.turns(self.OLD, new, self.node(also=(self.node(9),)), Node("a", {"to": None, "m": 1}))
        late = self.node(9)
        self.refused(self.OLD, new, self.node(also=(late,), on=self.node(also=(late,), on=late)),
                     ("to", ("inside",), "to", ("inside",), "m"), "bounds")


class TestLargeThings(TurnCase):
    """What was turned may be larger than what is handed in."""

    NAMES = ["a", "b", "c", "d", "e"]
    OLD = schema_of(("node", "a"), a=[(1, "on", ("maybe", ("node", "a"))), (2, "n", ("number", 0, 99))])

    def fan(self, most):
        """A schema of five kinds, each of which leads on to the next."""
        kinds = {}
        for name, on in zip(self.NAMES, self.NAMES[1:] + self.NAMES[:1]):
            kinds[name] = [(1, "on", ("maybe", ("node", on))), (2, "n", ("number", 0, most if name == "e" else 99))]
        return Schema(kinds, root=("node", "a"))

    def ring(self, many):
        nodes = [Node("a", {"on": None, "n": at}) for at in range(many)]
        for at, node in enumerate(nodes):
            node.put("on", nodes[(at + 1) % many])
        return nodes[0]

    def test_more_nodes_and_longer_ways(self):
        new = self.fan(99)
        ring = self.ring(63)
        self.OLD.check(ring)
        found = turned(self.OLD, new, ring)
        rows = told(new, found)[1]
        self.assertEqual(len(rows), 315)
        for at, (kind, fields) in enumerate(rows):
            self.assertEqual((kind, fields), (self.NAMES[at % 5], (("on", ("node", (at + 1) % 315)), ("n", at % 63))))
        self.assertTrue(same(new, copied(new, found), found))
        self.assertFalse(same(new, turned(self.OLD, new, self.ring(62)), found))
        self.assertEqual(asked(new, found, [("field", "on"), ("inside",)] * 31 + [("field", "n")]), ("number", 31))
        self.assertEqual(asked(new, found, [("field", "on"), ("inside",)] * 314 + [("field", "n")]), ("number", 62))

    def test_turned_again(self):
        new = self.fan(99)
        found = turned(self.OLD, new, self.ring(62))
        back = turned(new, self.OLD, found)
        # Each node of five kinds becomes one of a single kind, but all 310 of them are other nodes.
        self.assertEqual(len(told(self.OLD, back)[1]), 310)
        again = turned(self.OLD, new, back)
        self.assertEqual(len(told(new, again)[1]), 310)
        self.assertTrue(same(new, again, found))
        third = turned(self.OLD, new, turned(new, self.OLD, turned(self.OLD, new, self.ring(63))))
        self.assertEqual(len(told(new, third)[1]), 315)

    def test_a_long_path(self):
        for many, rounds in [(61, 0), (63, 1)]:
            ring = self.ring(many)
            # The last place at which any kind is met is refused by its number as an e alone.
            wrong = [at for at in range(many * 5) if at % 5 == 4 and at % many == 60]
            steps = ("on", ("inside",)) * wrong[0] + ("n",)
            node = ring
            for _ in range(60):
                node = node.fields["on"]
            node.put("n", 99)
            self.refused(self.OLD, self.fan(98), ring, steps, "bounds")
            self.assertGreater(len(steps), 100 * rounds)

    def test_many_thousand_nodes(self):
        schema = schema_of(("node", "k"), k=[(1, "on", ("maybe", ("node", "k")))])
        thing = None
        for _ in range(5000):
            thing = Node("k", {"on": thing})
        found = turned(schema, schema, thing)
        self.assertTrue(same(schema, found, thing))
        less = schema_of(("node", "k"), k=[(1, "on", ("node", "k"))])
        self.refused(schema, less, thing, ("on", ("inside",)) * 4999 + ("on",), "nothing")

    def test_deep_cases_and_rows(self):
        schema = schema_of(("choice", "c"), choices={"c": [(1, "end", None), (2, "on", ("row", 3, ("choice", "c")))]})
        new = schema_of(("choice", "c"), choices={"c": [(2, "to", ("row", 3, ("choice", "c"))), (3, "end", None)]})
        thing = Case("end")
        for _ in range(500):
            thing = Case("on", (thing,))
        self.assertTrue(same(schema, turned(schema, schema, thing), thing))
        self.refused(schema, new, thing, (("case", "to"), 0) * 500, "case")

    def test_many_places(self):
        schema = schema_of(("node", "k"), k=[(1, "r", ("row", 20, ("row", 20, ("row", 5, ("node", "l")))))],
                           l=[(1, "n", ("number", 0, 9))])
        leaf = Node("l", {"n": 5})
        thing = Node("k", {"r": (((leaf,) * 5,) * 20,) * 20})
        found = self.turns(schema, schema, thing, thing)
        self.assertEqual(len(told(schema, found)[1]), 2)


class Refused(Exception):
    pass


class Simple:
    """Turns things by functions that call themselves, as the rules are told."""

    def __init__(self, old, new):
        self.old, self.new, self.made = old, new, {}

    def turn(self, a, b, thing, path):
        if a[0] == "maybe":
            if thing is None:
                if b[0] != "maybe":
                    raise Refused(path, "nothing")
                return None
            return self.turn(a[1], b[1] if b[0] == "maybe" else b, thing, path + (("inside",),))
        if b[0] == "maybe":
            return self.turn(a, b[1], thing, path)
        if a[0] != b[0]:
            raise Refused(path, "sort")
        return getattr(self, a[0])(a, b, thing, path)

    def number(self, a, b, thing, path):
        if (b[1] is not None and thing < b[1]) or (b[2] is not None and thing > b[2]):
            raise Refused(path, "bounds")
        return thing

    def truth(self, a, b, thing, path):
        return thing

    def text(self, a, b, thing, path):
        if len(thing) > b[1]:
            raise Refused(path, "most")
        return thing

    def row(self, a, b, thing, path):
        self.text(a, b, thing, path)
        return tuple([self.turn(a[2], b[2], part, path + (at,)) for at, part in enumerate(thing)])

    def choice(self, a, b, thing, path):
        number, inner = {case[1]: (case[0], case[2]) for case in self.old.choices[a[1]]}[thing.word]
        cases = {case[0]: case for case in self.new.choices[b[1]]}
        if number not in cases:
            if 0 not in cases:
                raise Refused(path, "case")
            return Case(cases[0][1])
        _, name, wanted = cases[number]
        if wanted is None:
            return Case(name)
        if inner is None:
            raise Refused(path, "sort")
        return Case(name, self.turn(inner, wanted, thing.content, path + (("case", name),)))

    def node(self, a, b, thing, path):
        if (thing, b[1]) in self.made:
            return self.made[thing, b[1]]
        node = self.made[thing, b[1]] = Node(b[1])
        fields = {field[0]: field for field in self.old.kinds[a[1]]}
        for field in self.new.kinds[b[1]]:
            if field[0] not in fields:
                if len(field) == 3:
                    raise Refused(path + (field[1],), "lacks")
                node.put(field[1], field[3])
        for number, name, of, *_ in self.new.kinds[b[1]]:
            if number in fields:
                _, other, was, *_ = fields[number]
                node.put(name, self.turn(was, of, thing.fields[other], path + (name,)))
        return node


class TestByChance(TurnCase):
    def test_as_the_rules_are_told(self):
        counts = {}
        for seed in range(1500):
            chance = random.Random(seed)
            old = chance_schema(chance)
            new = chance_edition(chance, old)
            for _ in range(2):
                thing = chance_thing(chance, old)
                old.check(thing)
                before = told(old, thing)
                try:
                    found = Simple(old, new).turn(old.root, new.root, thing, ())
                except Refused as error:
                    self.refused(old, new, thing, *error.args)
                    counts[error.args[1]] = counts.get(error.args[1], 0) + 1
                else:
                    self.turns(old, new, thing, found)
                    counts["right"] = counts.get("right", 0) + 1
                self.assertEqual(told(old, thing), before)
        self.assertEqual(set(counts), {"right", "sort", "case", "lacks", "most", "bounds", "nothing"})

    def test_to_the_same_edition(self):
        for seed in range(300):
            chance = random.Random(seed)
            schema = chance_schema(chance)
            thing = chance_thing(chance, schema)
            self.turns(schema, schema, thing, thing)


if __name__ == "__main__":
    unittest.main()
