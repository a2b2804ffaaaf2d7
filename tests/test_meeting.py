"""What is told ahead of two editions: [15] to [17]."""

import random
import unittest

from chances import FAR, chance_edition, chance_schema, chance_thing

from thingwires.errors import NoTurn
from thingwires.meeting import keeps, meets
from thingwires.schemas import Schema
from thingwires.things import Case, Node, same, told
from thingwires.turning import turned

TRUTH = ("truth",)
SMALL, LARGE = ("number", 0, 5), ("number", 0, 9)


def schema_of(root, choices=None, **kinds):
    return Schema(kinds, choices=choices, root=root)


def roots(old, new, **parts):
    """Two schemas that are alike but for their roots."""
    return schema_of(old, **parts), schema_of(new, **parts)


def of_fields(*fields, **more):
    """A schema with a root of one kind of these fields."""
    return schema_of(("node", "k"), k=fields, **more)


def of_cases(*cases, **more):
    """A schema with a root of one choice of these cases."""
    return schema_of(("choice", "c"), choices={"c": cases}, **more)


class MeetCase(unittest.TestCase):
    def always(self, old, new, *pairs):
        found = meets(old, new)
        self.assertEqual(found, ("always", pairs))
        self.assertIs(type(found), tuple)
        self.assertIs(type(found[1]), tuple)
        self.assertEqual({type(pair) for pair in found[1]}, {tuple})

    def refused(self, old, new, path, why, thing):
        found = meets(old, new)
        self.assertEqual(found[:3], ("not", path, why))
        self.assertEqual(len(found), 4)
        self.assertIs(type(found), tuple)
        self.assertIs(type(found[1]), tuple)
        self.assertEqual(told(old, found[3]), told(old, thing))
        self.assertTrue(same(old, found[3], thing))
        self.is_refused_so(old, new, found)
        kept = keeps(old, new)
        if kept[:3] != found[:3]:
            # Something ahead of it may be passed over, but it is not refused.
            self.assertEqual(kept[2], "dropped")
        return found[3]

    def is_refused_so(self, old, new, found):
        old.check(found[3])
        with self.assertRaises(NoTurn) as caught:
            turned(old, new, found[3])
        self.assertEqual((caught.exception.path, caught.exception.why), found[1:3])


class TestAlone(MeetCase):
    """Pairs of the roots alone."""

    def test_numbers(self):
        for one, other in [
            ((0, 5), (0, 5)), ((0, 5), (None, None)), ((0, 5), (-1, 6)), ((None, 5), (None, 5)), ((None, None), (None, None)),
            ((None, None), (-FAR, FAR)), ((None, 3), (-FAR, 3)), ((3, None), (3, FAR)), ((-FAR, FAR), (None, None)),
        ]:
            pair = (("number", *one), ("number", *other))
            self.always(*roots(*pair), pair)
        for one, other, number in [
            ((0, 9), (0, 5), 6), ((0, 9), (1, 9), 0), ((0, 9), (3, 5), 0), ((-9, 9), (-5, 5), 6), ((-9, 9), (-4, 5), -5),
            ((-9, 9), (-5, 4), 5), ((None, None), (-5, 5), 6), ((None, None), (None, 5), 6), ((None, None), (-5, None), -6),
            ((None, None), (1, None), 0), ((None, None), (None, -1), 0), ((None, 9), (0, 9), -1), ((0, 9), (20, 30), 0),
            ((3, 9), (4, 9), 3), ((-9, -3), (-9, -4), -3), ((-9, -3), (-3, None), -4), ((3, 9), (-5, 5), 6),
            ((-9, 9), (0, 0), 1), ((-9, 9), (0, 9), -1), ((-9, 0), (0, 0), -1), ((-9, 9), (1, 5), 0), ((7, 7), (8, 8), 7),
            ((None, None), (1 - FAR, FAR - 1), FAR), ((None, None), (1 - FAR, FAR), -FAR), ((None, 0), (1 - FAR, 0), -FAR),
            ((-9, 3), (-2, 2), 3), ((-9, 2), (-2, 2), -3), ((-3, 9), (-2, 2), 3), ((FAR, FAR), (0, 0), FAR),
        ]:
            self.refused(*roots(("number", *one), ("number", *other)), (), "bounds", number)

    def test_truths_and_texts(self):
        self.always(*roots(TRUTH, TRUTH), (TRUTH, TRUTH))
        for one, other in [(0, 0), (3, 3), (3, 4), (0, 40), (40, 40)]:
            pair = (("text", one), ("text", other))
            self.always(*roots(*pair), pair)
        for one, other in [(1, 0), (4, 3), (40, 3), (40, 39)]:
            self.refused(*roots(("text", one), ("text", other)), (), "most", "x" * (other + 1))

    def test_rows(self):
        pair = (("row", 3, LARGE), ("row", 3, LARGE))
        self.always(*roots(*pair), pair, (LARGE, LARGE))
        self.refused(*roots(("row", 4, LARGE), ("row", 3, SMALL)), (), "most", (0, 0, 0, 0))
        self.refused(*roots(("row", 20, ("number", 3, 9)), ("row", 1, SMALL)), (), "most", (3, 3))
        self.refused(*roots(("row", 3, LARGE), ("row", 4, SMALL)), (0,), "bounds", (6,))
        self.refused(*roots(("row", 20, ("row", 3, TRUTH)), ("row", 20, ("row", 2, TRUTH))), (0,), "most", ((False,) * 3,))

    def test_rows_whose_most_is_none_are_not_gone_into(self):
        for one, other in [(0, 0), (0, 3)]:
            pair = (("row", one, LARGE), ("row", other, TRUTH))
            self.always(*roots(*pair), pair)
        self.refused(*roots(("row", 2, LARGE), ("row", 0, TRUTH)), (), "most", (0,))

    def test_maybes(self):
        pair = (("maybe", SMALL), ("maybe", LARGE))
        self.always(*roots(*pair), pair, (SMALL, LARGE))
        self.refused(*roots(*pair[::-1]), (("inside",),), "bounds", 6)
        pair = (SMALL, ("maybe", LARGE))
        self.always(*roots(*pair), pair, (SMALL, LARGE))
        self.refused(*roots(*pair[::-1]), (), "nothing", None)
        self.refused(*roots(LARGE, ("maybe", SMALL)), (), "bounds", 6)
        self.refused(*roots(("maybe", LARGE), TRUTH), (), "nothing", None)
        self.refused(*roots(("maybe", LARGE), ("maybe", TRUTH)), (("inside",),), "sort", 0)
        self.refused(*roots(("row", 3, ("maybe", TRUTH)), ("row", 3, TRUTH)), (0,), "nothing", (None,))
        self.refused(*roots(("row", 3, ("maybe", TRUTH)), ("row", 3, ("maybe", LARGE))), (0, ("inside",)), "sort", (False,))

    def test_other_sorts(self):
        parts = {"k": [(1, "a", ("number", 3, 9)), (2, "on", ("node", "k"))],
                 "choices": {"c": [(2, "b", ("number", -9, -3)), (3, "a", None)]}}
        node = Node("k", {"a": 3})
        node.put("on", node)
        things = {("number", 3, 9): 3, TRUTH: False, ("text", 5): "", ("row", 3, TRUTH): (), ("node", "k"): node,
                  ("choice", "c"): Case("b", -3)}
        for one in things:
            for other in things:
                if one != other:
                    self.refused(*roots(one, other, **parts), (), "sort", things[one])
                    self.refused(*roots(one, ("maybe", other), **parts), (), "sort", things[one])
                    self.refused(*roots(("maybe", one), ("maybe", other), **parts), (("inside",),), "sort", things[one])

    def test_arguments_by_their_names(self):
        old, new = roots(SMALL, LARGE)
        self.assertEqual(meets(new=new, old=old)[0], "always")
        self.assertEqual(keeps(new=old, old=new), ("not", (), "bounds"))


class TestChoices(MeetCase):
    CHOICE = (("choice", "c"), ("choice", "c"))

    def test_cases_by_rising_numbers(self):
        old = of_cases((5, "e", TRUTH), (1, "a", SMALL), (2, "b", None), (3, "c", SMALL))
        new = of_cases((3, "a", None), (1, "c", LARGE), (2, "b", None), (5, "x", TRUTH), (7, "y", SMALL))
        self.always(old, new, self.CHOICE, (SMALL, LARGE), (TRUTH, TRUTH))

    def test_contents(self):
        old = of_cases((1, "a", LARGE), (2, "b", LARGE), (3, "c", None))
        self.refused(old, of_cases((1, "x", LARGE), (2, "y", SMALL), (3, "z", None)), (("case", "y"),), "bounds", Case("b", 6))
        self.refused(old, of_cases((1, "x", SMALL), (2, "y", SMALL), (3, "z", None)), (("case", "x"),), "bounds", Case("a", 6))
        self.refused(old, of_cases((1, "x", LARGE), (2, "y", TRUTH), (3, "z", None)), (("case", "y"),), "sort", Case("b", 0))

    def test_a_case_that_new_has_not(self):
        old = of_cases((1, "a", None), (4, "d", ("number", 3, 9)), (2, "b", SMALL))
        self.refused(old, of_cases((1, "a", None), (2, "b", SMALL)), (), "case", Case("d", 3))
        self.refused(old, of_cases((4, "d", LARGE), (2, "b", SMALL)), (), "case", Case("a"))
        self.always(old, of_cases((0, "z", None), (2, "b", SMALL)), self.CHOICE, (SMALL, SMALL))
        self.refused(of_cases((0, "none", None)), of_cases((1, "a", None)), (), "case", Case("none"))

    def test_a_case_of_which_new_alone_has_content(self):
        old = of_cases((1, "a", None), (2, "b", SMALL), (3, "c", SMALL))
        self.refused(old, of_cases((1, "a", SMALL), (2, "b", SMALL)), (), "sort", Case("a"))
        self.refused(old, of_cases((0, "z", None), (1, "a", ("maybe", SMALL))), (), "sort", Case("a"))
        self.refused(old, of_cases((1, "a", None), (2, "b", None)), (), "case", Case("c", 0))

    def test_the_first_of_several_reasons(self):
        old = of_cases((1, "a", None), (2, "b", None), (3, "c", TRUTH))
        self.refused(old, of_cases((2, "b", TRUTH), (3, "c", TRUTH)), (), "case", Case("a"))
        self.refused(old, of_cases((1, "b", TRUTH), (3, "c", TRUTH)), (), "sort", Case("a"))
        self.refused(old, of_cases((1, "a", None), (3, "c", SMALL)), (), "case", Case("b"))
        self.refused(old, of_cases((1, "a", None), (2, "b", SMALL), (3, "c", SMALL)), (), "sort", Case("b"))

    def test_its_own_reasons_go_ahead_of_contents(self):
        old = of_cases((1, "a", LARGE), (2, "b", None))
        self.refused(old, of_cases((1, "a", SMALL)), (), "case", Case("b"))

    def test_a_choice_in_itself(self):
        old = of_cases((0, "end", None), (1, "on", ("row", 3, ("choice", "c"))), (2, "n", LARGE))
        row = ("row", 3, ("choice", "c"))
        self.always(old, old, self.CHOICE, (row, row), (LARGE, LARGE))
        new = of_cases((0, "end", None), (1, "on", ("row", 3, ("choice", "c"))), (2, "n", SMALL))
        self.refused(old, new, (("case", "n"),), "bounds", Case("n", 6))
        new = schema_of(("choice", "c"), choices={
            "c": [(0, "end", None), (1, "to", ("row", 3, ("choice", "d"))), (2, "m", LARGE)],
            "d": [(0, "end", None), (1, "fro", ("row", 3, ("choice", "c"))), (2, "n", SMALL)],
        })
        self.refused(old, new, (("case", "to"), 0, ("case", "n")), "bounds", Case("on", (Case("n", 6),)))


class TestNodes(MeetCase):
    NODE = (("node", "k"), ("node", "k"))

    def test_fields_by_rising_numbers(self):
        old = of_fields((5, "a", TRUTH), (1, "b", SMALL), (3, "c", ("text", 3)), (4, "d", SMALL), (2, "e", LARGE, 3))
        new = of_fields((3, "c", ("text", 4)), (1, "a", LARGE), (4, "x", LARGE), (5, "y", ("maybe", TRUTH)), (9, "z", SMALL, 0))
        self.always(old, new, self.NODE, (SMALL, LARGE), (("text", 3), ("text", 4)), (TRUTH, ("maybe", TRUTH)), (TRUTH, TRUTH))

    def test_depth_first(self):
        old = schema_of(("node", "a"), a=[(1, "x", ("row", 3, ("node", "b"))), (2, "y", ("node", "c"))],
                        b=[(1, "x", ("maybe", ("node", "c"))), (2, "y", TRUTH)], c=[(1, "x", SMALL), (2, "y", ("node", "a"))])
        row = ("row", 3, ("node", "b"))
        may = ("maybe", ("node", "c"))
        self.always(old, old, (("node", "a"), ("node", "a")), (row, row), (("node", "b"), ("node", "b")), (may, may),
                    (("node", "c"), ("node", "c")), (SMALL, SMALL), (TRUTH, TRUTH))

    def test_a_pair_that_was_met_is_not_gone_into_again(self):
        # The pair of b and b is met first within c, so its path goes there.
        old = schema_of(("node", "a"), a=[(1, "x", ("node", "c")), (2, "y", ("node", "b"))], b=[(1, "n", LARGE)],
                        c=[(7, "z", ("node", "b"))])
        new = schema_of(("node", "a"), a=[(1, "x", ("node", "c")), (2, "y", ("node", "b"))], b=[(1, "m", SMALL)],
                        c=[(7, "w", ("node", "b"))])
        node = Node("b", {"n": 6})
        self.refused(old, new, ("x", "w", "m"), "bounds", Node("a", {"x": Node("c", {"z": node}), "y": node}))

    def test_lacks(self):
        old = of_fields((2, "a", ("number", 3, 9)), (4, "b", ("text", 3)))
        new = of_fields((1, "w", TRUTH, True), (2, "a", TRUTH), (9, "z", TRUTH), (5, "y", ("node", "k")))
        self.refused(old, new, ("y",), "lacks", Node("k", {"a": 3, "b": ""}))
        old = of_fields((1, "on", ("row", 3, ("node", "l"))), l=[(2, "a", ("number", 3, 9))])
        new = of_fields((1, "to", ("row", 3, ("node", "l"))), l=[(2, "a", LARGE), (1, "lack", TRUTH)])
        self.refused(old, new, ("to", 0, "lack"), "lacks", Node("k", {"on": (Node("l", {"a": 3}),)}))

    def test_rings_of_kinds(self):
        old = of_fields((1, "on", ("node", "k")), (2, "n", LARGE))
        self.always(old, old, self.NODE, (LARGE, LARGE))
        ring = Node("k", {"n": 6})
        ring.put("on", ring)
        self.refused(old, of_fields((1, "on", ("node", "k")), (2, "m", SMALL)), ("m",), "bounds", ring)
        new = of_fields((1, "on", ("node", "l")), (2, "m", LARGE), l=[(1, "to", ("node", "k")), (2, "n", SMALL)])
        one, two = Node("k", {"n": 0}), Node("k", {"n": 6})
        one.put("on", two)
        two.put("on", one)
        self.refused(old, new, ("on", "n"), "bounds", one)

    def test_along_the_path(self):
        old = schema_of(
            ("maybe", ("node", "a")), choices={"c": [(1, "p", None), (2, "q", ("row", 3, ("maybe", ("node", "b"))))]},
            a=[(1, "x", ("choice", "c")), (2, "y", ("choice", "c")), (3, "z", ("row", 3, TRUTH))],
            b=[(1, "n", LARGE), (2, "a", ("maybe", ("node", "a")))],
        )
        new = schema_of(
            ("maybe", ("node", "d")), choices={"e": [(1, "r", None), (2, "s", ("row", 3, ("maybe", ("node", "f"))))]},
            d=[(1, "u", ("choice", "e")), (2, "v", ("choice", "e")), (3, "w", ("row", 3, TRUTH))],
            f=[(1, "m", SMALL), (2, "d", ("maybe", ("node", "d")))],
        )
        self.refused(old, new, (("inside",), "u", ("case", "s"), 0, ("inside",), "m"), "bounds", Node("a", {
            "x": Case("q", (Node("b", {"n": 6, "a": None}),)), "y": Case("p"), "z": ()}))


class TestPlainParts(MeetCase):
    """What stands beside the path is plain, with one node of a pair of kinds."""

    def test_one_node_of_a_pair_of_kinds(self):
        old = of_fields((1, "a", ("node", "l")), (2, "b", ("node", "l")), (3, "n", LARGE), (4, "self", ("node", "k")),
                        l=[(1, "k", ("node", "k")), (2, "n", ("number", 2, 5))])
        new = of_fields((1, "a", ("node", "l")), (2, "b", ("node", "m")), (3, "n", SMALL), (4, "self", ("node", "k")),
                        l=[(1, "k", ("node", "k"))], m=[(1, "k", ("node", "k"))])
        node, one, two = Node("k", {"n": 6}), Node("l", {"n": 2}), Node("l", {"n": 2})
        for name, other in [("a", one), ("b", two), ("self", node)]:
            node.put(name, other)
        one.put("k", node)
        two.put("k", node)
        self.refused(old, new, ("n",), "bounds", node)

    def test_one_node_of_each_kind_in_what_new_drops(self):
        leaf = [(1, "m", ("number", 2, 5)), (2, "k", ("node", "k"))]
        old = of_fields((1, "a", ("node", "l")), (2, "n", LARGE), (3, "b", ("node", "l")), (4, "c", ("node", "k")),
                        (5, "d", ("row", 2, ("node", "l"))), (6, "e", ("node", "l")), (7, "f", ("node", "l")), l=leaf)
        new = of_fields((2, "n", SMALL), (3, "b", TRUTH), (7, "f", ("node", "l")), l=[(1, "m", SMALL)])
        node, read, dropped, other = Node("k", {"n": 6}), Node("l", {"m": 2}), Node("l", {"m": 2}), Node("k", {"n": 0})
        for name, part in [("a", dropped), ("b", dropped), ("c", other), ("d", ()), ("e", dropped), ("f", read)]:
            node.put(name, part)
        for name, part in [("a", dropped), ("b", dropped), ("c", other), ("d", ()), ("e", dropped), ("f", dropped)]:
            other.put(name, part)
        read.put("k", other)
        dropped.put("k", other)
        self.refused(old, new, ("n",), "bounds", node)

    def test_contents_that_new_does_not_read(self):
        kinds = {"l": [(1, "m", SMALL)]}
        old = schema_of(("node", "k"), choices={
            "c": [(1, "a", ("node", "l")), (2, "b", None)], "d": [(3, "a", ("node", "l"))], "e": [(1, "a", ("node", "l"))],
        }, k=[(1, "n", LARGE), (2, "c", ("choice", "c")), (3, "d", ("choice", "d")), (4, "e", ("choice", "e")),
              (5, "f", ("node", "l")), (6, "g", ("node", "l"))], **kinds)
        new = schema_of(("node", "k"), choices={
            "c": [(1, "a", None)], "d": [(0, "z", None)], "e": [(1, "x", ("node", "l"))],
        }, k=[(1, "n", SMALL), (2, "c", ("choice", "c")), (3, "d", ("choice", "d")), (4, "e", ("choice", "e")),
              (5, "f", ("node", "l"))], **kinds)
        read, unread = Node("l", {"m": 0}), Node("l", {"m": 0})
        self.refused(old, new, ("n",), "bounds", Node("k", {
            "n": 6, "c": Case("a", unread), "d": Case("a", unread), "e": Case("a", read), "f": read, "g": unread}))

    def test_a_case_that_is_refused_has_content_that_new_does_not_read(self):
        old = schema_of(("node", "k"), choices={"c": [(1, "a", None), (2, "b", ("node", "l"))]},
                        k=[(1, "l", ("node", "l")), (2, "c", ("choice", "c")), (3, "d", ("node", "l"))], l=[])
        new = schema_of(("node", "k"), choices={"c": [(1, "a", None)]},
                        k=[(1, "l", ("node", "l")), (2, "c", ("choice", "c"))], l=[])
        read, unread = Node("l"), Node("l")
        self.refused(old, new, ("c",), "case", Node("k", {"l": read, "c": Case("b", unread), "d": unread}))

    def test_what_is_of_another_sort_has_nodes_that_new_does_not_read(self):
        old = of_fields((1, "a", ("node", "l")), (2, "b", ("node", "l")), (3, "c", ("node", "l")), l=[])
        new = of_fields((1, "a", ("node", "l")), (2, "b", TRUTH), l=[])
        read, unread = Node("l"), Node("l")
        self.refused(old, new, ("b",), "sort", Node("k", {"a": read, "b": unread, "c": unread}))

    def test_a_row_that_is_refused_has_one_plain_thing(self):
        row = [(1, "n", LARGE), (2, "k", ("node", "k"))]
        old = of_fields((1, "a", ("node", "l")), (2, "r", ("row", 9, ("node", "l"))), (3, "b", ("node", "l")), l=row)
        new = of_fields((1, "a", ("node", "l")), (2, "r", ("row", 2, ("node", "l"))), l=row)
        node, leaf, dropped = Node("k"), Node("l", {"n": 0}), Node("l", {"n": 0})
        other = Node("k", {"a": dropped, "r": (), "b": dropped})
        for name, part in [("a", leaf), ("r", (leaf, leaf, leaf)), ("b", dropped)]:
            node.put(name, part)
        leaf.put("k", node)
        dropped.put("k", other)
        thing = self.refused(old, new, ("r",), "most", node)
        self.assertIs(thing.fields["r"][0], thing.fields["r"][2])

    def test_a_row_of_cases_that_is_refused(self):
        old = schema_of(("row", 3, ("choice", "c")), choices={"c": [(2, "a", ("node", "k")), (3, "b", None)]}, k=[])
        new = schema_of(("row", 1, ("choice", "c")), choices={"c": [(2, "a", ("node", "k"))]}, k=[])
        case = Case("a", Node("k"))
        self.refused(old, new, (), "most", (case, case))

    def test_something_sure_that_new_has_as_a_maybe(self):
        old = of_fields((1, "a", ("node", "l")), (2, "b", ("node", "l")), (3, "n", LARGE), (4, "c", ("maybe", ("node", "l"))), l=[])
        new = of_fields((1, "a", ("maybe", ("node", "l"))), (2, "b", ("node", "l")), (3, "n", SMALL), (4, "c", ("node", "l")), l=[])
        leaf = Node("l")
        self.refused(old, new, ("n",), "bounds", Node("k", {"a": leaf, "b": leaf, "n": 6, "c": None}))

    def test_defaults_do_not_count(self):
        old = of_fields((1, "a", LARGE, 5), (2, "n", LARGE, 5), (3, "s", ("text", 3), "abc"), (4, "t", TRUTH, True))
        new = of_fields((1, "a", LARGE, 5), (2, "n", SMALL, 5))
        self.refused(old, new, ("n",), "bounds", Node("k", {"a": 0, "n": 6, "s": "", "t": False}))

    def test_each_is_new(self):
        old, new = of_fields((1, "n", LARGE), (2, "k", ("row", 3, ("node", "k")))), of_fields((1, "n", SMALL))
        one, two = meets(old, new), meets(old, new)
        self.assertIsNot(one[3], two[3])
        one[3].put("k", (one[3],))
        self.assertEqual(two[3].fields["k"], ())
        self.assertEqual(meets(old, new)[3].fields, {"n": 6, "k": ()})


class TestKeeps(MeetCase):
    def kept(self, old, new):
        self.assertEqual(keeps(old, new), meets(old, new))
        self.assertEqual(keeps(old, new)[0], "always")

    def lost(self, old, new, path, why="dropped"):
        found = keeps(old, new)
        self.assertEqual(found, ("not", path, why))
        self.assertIs(type(found[1]), tuple)

    def test_kept(self):
        self.kept(*roots(SMALL, LARGE))
        self.kept(*roots(SMALL, ("maybe", LARGE)))
        self.kept(*roots(("row", 0, SMALL), ("row", 3, TRUTH)))
        self.kept(of_fields((1, "a", SMALL)), of_fields((1, "b", LARGE), (2, "c", TRUTH, True)))
        self.kept(of_cases((0, "a", None), (1, "b", SMALL)), of_cases((0, "x", None), (1, "b", LARGE), (2, "c", None)))

    def test_refused(self):
        for one, other, why in [(LARGE, SMALL, "bounds"), (("text", 3), ("text", 2), "most"), (TRUTH, SMALL, "sort"),
                                (("maybe", TRUTH), TRUTH, "nothing"), (("row", 1, TRUTH), ("row", 0, TRUTH), "most")]:
            self.lost(*roots(one, other), (), why)
        self.lost(of_fields(), of_fields((1, "a", TRUTH)), ("a",), "lacks")
        self.lost(of_cases((1, "a", None)), of_cases((2, "a", None)), (), "case")
        self.lost(of_cases((1, "a", None)), of_cases((0, "z", None), (1, "a", TRUTH)), (), "sort")

    def test_fields_that_new_has_not(self):
        old = of_fields((1, "a", SMALL), (5, "b", SMALL, 3), (3, "c", TRUTH))
        self.lost(old, of_fields((1, "x", SMALL)), ("c",))
        self.lost(old, of_fields((1, "x", SMALL), (3, "c", TRUTH), (2, "b", SMALL, 3)), ("b",))
        self.lost(old, of_fields(), ("a",))
        self.lost(old, of_fields((1, "x", TRUTH), (9, "lack", TRUTH)), ("lack",), "lacks")
        self.lost(old, of_fields((1, "x", TRUTH), (3, "c", TRUTH)), ("b",))
        self.lost(old, of_fields((1, "x", TRUTH), (3, "c", TRUTH), (5, "b", SMALL)), ("x",), "sort")

    def test_contents_and_cases_that_new_has_not(self):
        old = of_cases((1, "a", SMALL), (2, "b", None))
        self.lost(old, of_cases((1, "a", None), (2, "b", None)), ())
        self.lost(old, of_cases((0, "z", None), (1, "a", SMALL)), ())
        self.lost(old, of_cases((0, "z", None), (1, "a", None)), ())
        self.lost(old, of_cases((1, "a", None)), (), "case")
        self.lost(old, of_cases((0, "z", None), (2, "b", SMALL)), (), "sort")
        self.lost(of_cases((0, "a", None), (1, "b", TRUTH)), of_cases((0, "a", None)), ())

    def test_the_first_pair(self):
        old = of_fields((1, "r", ("row", 3, ("maybe", ("choice", "c")))), (2, "n", LARGE), choices={"c": [(1, "a", SMALL)]})
        new = of_fields((1, "s", ("row", 3, ("maybe", ("choice", "c")))), (2, "n", SMALL), choices={"c": [(1, "a", None)]})
        self.lost(old, new, ("s", 0, ("inside",)))
        self.refused(old, new, ("n",), "bounds", Node("k", {"r": (), "n": 6}))
        old = of_fields((1, "n", LARGE), (2, "l", ("maybe", ("node", "l"))), l=[(1, "x", TRUTH)])
        new = of_fields((1, "n", LARGE), (2, "m", ("maybe", ("node", "l"))), l=[])
        self.lost(old, new, ("m", ("inside",), "x"))
        self.assertEqual(meets(old, new)[0], "always")
        new = of_fields((1, "n", SMALL), (2, "m", ("maybe", ("node", "l"))), l=[])
        self.lost(old, new, ("n",), "bounds")

    def test_rows_whose_most_is_none_lose_nothing(self):
        self.kept(of_fields((1, "r", ("row", 0, ("node", "l"))), l=[(1, "x", TRUTH)]),
                  of_fields((1, "r", ("row", 3, ("node", "l"))), l=[]))


class Found(Exception):
    pass


class Simple:
    """Tells what meets tells, by functions that call themselves, as the rules are told."""

    def __init__(self, old, new):
        self.old, self.new = old, new
        self.pairs = []
        self.nodes = {}

    def tell(self):
        try:
            self.meet(self.old.root, self.new.root, ())
        except Found as error:
            path, self.why, self.bad = error.args
            return "not", path, self.why, self.make(self.old.root, self.new.root, path)
        return "always", tuple(self.pairs)

    def meet(self, a, b, path):
        if (a, b) in self.pairs:
            return
        self.pairs.append((a, b))
        if a[0] == "maybe":
            if b[0] != "maybe":
                raise Found(path, "nothing", (a, b))
            self.meet(a[1], b[1], path + (("inside",),))
        elif b[0] == "maybe":
            self.meet(a, b[1], path)
        elif a[0] != b[0]:
            raise Found(path, "sort", (a, b))
        elif a[0] == "number" and self.near(a, b) is not None:
            raise Found(path, "bounds", (a, b))
        elif a[0] in ("text", "row") and a[1] > b[1]:
            raise Found(path, "most", (a, b))
        elif a[0] == "row" and a[1] and b[1]:
            self.meet(a[2], b[2], path + (0,))
        elif a[0] == "choice":
            self.meet_cases(a, b, path)
        elif a[0] == "node":
            self.meet_fields(a, b, path)

    def meet_cases(self, a, b, path):
        cases = {case[0]: case for case in self.new.choices[b[1]]}
        for number, name, of in self.old.choices[a[1]]:
            if number not in cases and 0 not in cases:
                raise Found(path, "case", (a, b))
            if number in cases and of is None and cases[number][2] is not None:
                raise Found(path, "sort", (a, b))
        for number, name, of in self.old.choices[a[1]]:
            if number in cases and of is not None and cases[number][2] is not None:
                self.meet(of, cases[number][2], path + (("case", cases[number][1]),))

    def meet_fields(self, a, b, path):
        fields = {field[0]: field for field in self.old.kinds[a[1]]}
        for field in self.new.kinds[b[1]]:
            if field[0] not in fields and len(field) == 3:
                raise Found(path + (field[1],), "lacks", (a, b))
        for field in self.new.kinds[b[1]]:
            if field[0] in fields:
                self.meet(fields[field[0]][2], field[2], path + (field[1],))

    def near(self, a, b=("number", 1, 0)):
        """The number of least distance from 0 that is within a's bounds and out of b's."""
        near = [n + more for n in (0, FAR, -FAR, *a[1:], *b[1:]) if n is not None for more in (-1, 0, 1)]
        near = [n for n in near if self.within(n, a) and not self.within(n, b) and abs(n) <= FAR]
        return min(near, key=lambda n: (abs(n), n < 0), default=None)

    def within(self, n, a):
        return (a[1] is None or a[1] <= n) and (a[2] is None or n <= a[2])

    def make(self, a, b, path=None):
        """Make the thing; path is the rest of the way, None beside it, and b None where new reads nothing."""
        if path is not None and (a, b) == self.bad:
            if self.why in ("bounds", "most", "nothing") or a[0] == b[0] == "choice":
                return self.end(a, b)
            path = None
        if b is not None and a[0] != "maybe" == b[0]:
            return self.make(a, b[1], path)
        if b is not None and a[0] != b[0]:
            b = None
        if a[0] == "maybe":
            return None if path is None else self.make(a[1], b[1], path[1:])
        if a[0] == "row":
            return () if path is None else (self.make(a[2], b[2], path[1:]),)
        if a[0] == "choice":
            return self.make_case(a, b, path)
        if a[0] == "node":
            return self.make_node(a, b, path)
        return self.near(a) if a[0] == "number" else {"truth": False, "text": ""}[a[0]]

    def make_case(self, a, b, path):
        cases = {} if b is None else {case[0]: case for case in self.new.choices[b[1]]}
        rows = self.old.choices[a[1]]
        if path is not None:
            rows = [case for case in rows if case[0] in cases and ("case", cases[case[0]][1]) == path[0]]
        number, name, of = rows[0]
        like = cases.get(number, (0, 0, None))[2]
        return Case(name, None if of is None else self.make(of, like, None if path is None else path[1:]))

    def make_node(self, a, b, path):
        key = (a[1], None if b is None else b[1])
        if key not in self.nodes:
            node = self.nodes[key] = Node(a[1])
            fields = {} if b is None else {field[0]: field for field in self.new.kinds[b[1]]}
            for number, name, of, *_ in self.old.kinds[a[1]]:
                like = fields.get(number, (0, None, None))
                is_on = path is not None and like[1] == path[0]
                node.put(name, self.make(of, like[2], path[1:] if is_on else None))
        return self.nodes[key]

    def end(self, a, b):
        if self.why == "bounds":
            return self.near(a, b)
        if self.why == "most" and a[0] == "text":
            return "x" * (b[1] + 1)
        if self.why == "most":
            return (self.make(a[2], b[2]),) * (b[1] + 1)
        if self.why == "nothing":
            return None
        cases = {case[0]: case for case in self.new.choices[b[1]]}
        for number, name, of in self.old.choices[a[1]]:
            if number not in cases and 0 not in cases:
                return Case(name, None if of is None else self.make(of, None))
            if number in cases and of is None and cases[number][2] is not None:
                return Case(name)


class TestByChance(MeetCase):
    def editions(self, many):
        for seed in range(many):
            chance = random.Random(seed)
            old = chance_schema(chance)
            yield chance, old, chance_edition(chance, old)

    def test_as_the_rules_are_told(self):
        counts = {}
        for _, old, new in self.editions(3000):
            found, expected = meets(old, new), Simple(old, new).tell()
            self.assertEqual(found[:3], expected[:3])
            if found[0] == "not":
                self.refused(old, new, *expected[1:])
                counts[found[2]] = counts.get(found[2], 0) + 1
            else:
                counts["always"] = counts.get("always", 0) + 1
        self.assertEqual(set(counts), {"always", "sort", "case", "lacks", "most", "bounds", "nothing"})
        self.assertGreater(min(counts.values()), 10)

    def test_all_things_are_read_where_it_is_told(self):
        for chance, old, new in self.editions(1500):
            is_read = meets(old, new)[0] == "always"
            for _ in range(3):
                thing = chance_thing(chance, old)
                try:
                    turned(old, new, thing)
                except NoTurn:
                    self.assertFalse(is_read)

    def test_nothing_is_lost_where_it_is_told(self):
        many = 0
        for chance, old, new in self.editions(4000):
            kept, back = keeps(old, new), meets(new, old)
            if kept[0] == "always":
                self.assertEqual(kept, meets(old, new))
            elif kept[2] != "dropped":
                self.assertEqual(kept, meets(old, new)[:3])
            if kept[0] == "not" or back[0] == "not":
                continue
            kinds = {}
            for one, other in kept[1]:
                if one[0] == other[0] == "node":
                    kinds.setdefault(one[1], set()).add(other[1])
            if all(len(row) == 1 for row in kinds.values()):
                many += 1
                for _ in range(3):
                    thing = chance_thing(chance, old)
                    self.assertTrue(same(old, turned(new, old, turned(old, new, thing)), thing))
        self.assertGreater(many, 500)

    def test_the_same_edition(self):
        for _, old, _ in self.editions(300):
            self.assertEqual(meets(old, old)[0], "always")
            self.assertEqual(keeps(old, old), meets(old, old))


if __name__ == "__main__":
    unittest.main()
