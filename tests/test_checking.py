"""What is a thing of a schema's root, and by which place and why it is none: [7] and [8]."""

import unittest

from oddities import Hostile, nested, odd_objects

from thingwires.errors import NoThing
from thingwires.schemas import Schema
from thingwires.things import Case, Node, copied

SCHEMA = Schema(
    {
        "k": [
            (9, "last", ("maybe", ("node", "k"))),
            (2, "num", ("number", -5, 5), 3),
            (3, "flag", ("truth",)),
            (4, "txt", ("text", 3)),
            (5, "list", ("row", 2, ("number", 0, 9))),
            (6, "pick", ("choice", "c")),
            (1, "other", ("maybe", ("node", "l"))),
        ],
        "l": [],
    },
    choices={
        "c": [(0, "none", None), (4, "num", ("number", 0, 9)), (2, "on", ("choice", "c")), (3, "may", ("maybe", ("truth",)))],
    },
    root=("node", "k"),
)

CHAIN = Schema({}, choices={"c": [(1, "end", None), (2, "on", ("choice", "c")), (3, "num", ("number", 0, 9))]},
               root=("choice", "c"))


def schema_of(root):
    return Schema(SCHEMA.kinds, choices=SCHEMA.choices, root=root)


def fields(**more):
    return {"other": None, "num": 0, "flag": True, "txt": "abc", "list": (1, 2), "pick": Case("none"), "last": None, **more}


def node(**more):
    return Node("k", fields(**more))


class CheckCase(unittest.TestCase):
    def right(self, thing, schema=SCHEMA):
        self.assertIsNone(schema.check(thing))

    def wrong(self, path, why, thing, schema=SCHEMA):
        with self.assertRaises(NoThing) as caught:
            schema.check(thing)
        self.assertEqual((caught.exception.path, caught.exception.why), (path, why))
        self.assertIs(type(caught.exception.path), tuple)

    def right_of(self, of, *things):
        for thing in things:
            self.right(thing, schema_of(of))

    def wrong_of(self, of, why, *things, path=()):
        for thing in things:
            self.wrong(path, why, thing, schema_of(of))


class TestSimple(CheckCase):
    def test_numbers(self):
        self.right_of(("number", -5, 5), -5, 0, 5)
        self.wrong_of(("number", -5, 5), "bounds", -6, 6, 10 ** 70, -10 ** 70)
        self.right_of(("number", None, 5), -10 ** 59, 5)
        self.wrong_of(("number", None, 5), "bounds", 6)
        self.right_of(("number", 5, None), 10 ** 59, 5)
        self.wrong_of(("number", 5, None), "bounds", 4)
        self.wrong_of(("number", 0, 1), "sort", True, False, None, 1.0, "1", (), (1,), Case("num", 1), Node("k"))

    def test_sixty_figures(self):
        self.right_of(("number", None, None), 10 ** 60 - 1, 1 - 10 ** 60)
        self.wrong_of(("number", None, None), "bounds", 10 ** 60, -10 ** 60, 10 ** 5000)
        self.wrong_of(("number", 10 ** 60, None), "bounds", 10 ** 60)

    def test_truths(self):
        self.right_of(("truth",), True, False)
        self.wrong_of(("truth",), "sort", 0, 1, None, "yes", (), Case("none"))

    def test_texts(self):
        self.right_of(("text", 3), "", "a", "abc", '"\\~')
        self.wrong_of(("text", 3), "most", "abcd", "x" * 1000)
        self.right_of(("text", 0), "")
        self.wrong_of(("text", 0), "most", "a")
        self.wrong_of(("text", 3), "sort", b"abc", 1, True, None, (), ("a",), ["a"])

    def test_what_has_no_signs_is_no_text(self):
        self.wrong_of(("text", 3), "sort", "a%", "\n", "\x1f", "\x7f", "\u00e9", "abc%")

    def test_rows(self):
        self.right_of(("row", 2, ("number", 0, 9)), (), (1,), (1, 2))
        self.wrong_of(("row", 2, ("number", 0, 9)), "most", (1, 2, 3), ("a", "b", "c"))
        self.wrong_of(("row", 2, ("number", 0, 9)), "sort", [], [1], "ab", None, {}, range(2), True)
        self.wrong_of(("row", 2, ("number", 0, 9)), "bounds", (10, "a"), path=(0,))
        self.wrong_of(("row", 2, ("number", 0, 9)), "sort", (9, "a"), path=(1,))
        self.right_of(("row", 0, ("number", 0, 9)), ())
        self.wrong_of(("row", 0, ("number", 0, 9)), "most", (1,))

    def test_maybes(self):
        self.right_of(("maybe", ("truth",)), None, True, False)
        self.wrong_of(("maybe", ("truth",)), "sort", 0, "a", (), path=(("inside",),))
        self.wrong_of(("maybe", ("number", 0, 5)), "bounds", 6, path=(("inside",),))
        self.wrong_of(("maybe", ("row", 2, ("maybe", ("truth",)))), "sort", (None, 5), path=(("inside",), 1, ("inside",)))

    def test_choices(self):
        of = ("choice", "c")
        self.right_of(of, Case("none"), Case("num", 9), Case("on", Case("none")), Case("may"), Case("may", True))
        self.wrong_of(of, "sort", "none", None, ("case", "none", None), Case("nope"), Case("NONE"), Case(None), Case(0),
                      Case(["none"]), Case(Hostile()), Case(("none",)), Case(True), Node("c"), {}, Case("nope", Hostile()))
        self.wrong_of(of, "bounds", Case("num", 10), path=(("case", "num"),))
        self.wrong_of(of, "sort", Case("num"), Case("num", "a"), Case("num", True), path=(("case", "num"),))
        self.wrong_of(of, "sort", Case("on", Case("x")), path=(("case", "on"),))
        self.wrong_of(of, "sort", Case("on", Case("on", Case("num"))), path=(("case", "on"), ("case", "on"), ("case", "num")))

    def test_content_where_the_case_has_none(self):
        for content in [0, False, "", (), True, Case("none"), Node("k"), *odd_objects()]:
            self.wrong_of(("choice", "c"), "sort", Case("none", content), path=(("case", "none"),))

    def test_nodes(self):
        self.right(node())
        self.right(node(last=node(), other=Node("l"), pick=Case("on", Case("num", 3))))
        self.wrong((), "sort", Node("l"))
        for thing in [None, "k", {}, (), Case("k"), ("node", 0), True, fields()]:
            self.wrong((), "sort", thing)
        for kind in [None, 1, True, b"k", ("k",), ["k"], Hostile(), "K", ""]:
            self.wrong((), "sort", Node(kind, fields()))

    def test_fields(self):
        self.wrong((), "fields", Node("k"))
        self.wrong((), "fields", node(more=1))
        self.wrong((), "fields", Node("k", {**fields(), 5: 1}))
        self.wrong((), "fields", Node("k", {**fields(), None: 1}))
        for name in fields():
            rest = {other: thing for other, thing in fields().items() if other != name}
            self.wrong((), "fields", Node("k", rest))
            self.wrong((), "fields", Node("k", {**rest, name.upper(): 1}))
            self.wrong((), "fields", Node("k", {**rest, 1: 1}))
        self.wrong((), "fields", Node("k", {1: 2, None: 3, (): 4}))
        self.wrong(("last", ("inside",)), "fields", node(last=Node("k")))
        self.right_of(("node", "l"), Node("l"))
        self.wrong_of(("node", "l"), "fields", Node("l", {"a": 1}))

    def test_a_default_does_not_stand_for_a_field(self):
        rest = fields()
        del rest["num"]
        self.wrong((), "fields", Node("k", rest))

    def test_fields_are_gone_through_by_rising_numbers(self):
        bad = {"other": 5, "num": 6, "flag": 0, "txt": "abcd", "list": (1, 2, 3), "pick": Case("x"), "last": 5}
        for name, path, why in [
            ("other", ("other", ("inside",)), "sort"), ("num", ("num",), "bounds"), ("flag", ("flag",), "sort"),
            ("txt", ("txt",), "most"), ("list", ("list",), "most"), ("pick", ("pick",), "sort"),
            ("last", ("last", ("inside",)), "sort"),
        ]:
            self.wrong(path, why, node(**bad))
            bad[name] = fields()[name]
        self.right(node(**bad))

    def test_the_first_place_depth_first(self):
        within = node(num=99)
        self.wrong(("last", ("inside",), "num"), "bounds", node(last=within))
        self.wrong(("num",), "bounds", node(last=within, num=-99))
        rows = schema_of(("row", 3, ("row", 3, ("number", 0, 9))))
        self.wrong((0, 2), "bounds", ((1, 2, 10), 5, 5), rows)
        self.wrong((1,), "sort", ((1, 2, 3), 5, 5), rows)
        self.wrong((1,), "most", ((), (1, 2, 3, "a"), 5), rows)

    def test_arguments_by_their_names(self):
        self.assertIsNone(SCHEMA.check(thing=node()))

    def test_what_is_handed_in_stays(self):
        thing = node(last=node())
        kept = dict(thing.fields)
        SCHEMA.check(thing)
        self.assertEqual(thing.fields, kept)


class TestAnyObject(CheckCase):
    def test_at_any_place(self):
        for odd in odd_objects():
            for of in [("number", 0, 5), ("truth",), ("text", 3), ("row", 3, ("truth",)), ("choice", "c"), ("node", "k")]:
                self.wrong((), "sort", odd, schema_of(of))
                self.wrong((("inside",),), "sort", odd, schema_of(("maybe", of)))
                self.wrong((1,), "sort", (copied_of(of), odd), schema_of(("row", 3, of)))
            for name in ("num", "flag", "txt", "list", "pick"):
                self.wrong((name,), "sort", node(**{name: odd}))
            for name in ("other", "last"):
                self.wrong((name, ("inside",)), "sort", node(**{name: odd}))
            self.wrong(("list", 1), "sort", node(list=(1, odd)))
            self.wrong(("pick", ("case", "num")), "sort", node(pick=Case("num", odd)))
            self.wrong(("pick", ("case", "may"), ("inside",)), "sort", node(pick=Case("may", odd)))
            self.wrong(("pick",), "sort", node(pick=Case(odd)))
            self.wrong((), "sort", Node(odd, fields()))

    def test_none_where_there_is_no_maybe(self):
        for of in [("number", 0, 5), ("truth",), ("text", 3), ("row", 3, ("truth",)), ("choice", "c"), ("node", "k")]:
            self.wrong((), "sort", None, schema_of(of))
            self.wrong((0,), "sort", (None,), schema_of(("row", 3, of)))

    def test_however_deep(self):
        deep = nested(100000, 5)
        self.wrong((), "sort", deep)
        self.wrong(("list", 0), "sort", node(list=(deep,)))
        case = Case("end")
        for _ in range(5000):
            case = Case("on", case)
        self.wrong((("case", "on"),) * 161, "deep", case, CHAIN)


def copied_of(of):
    """Some thing of a type that is right."""
    return {"number": 1, "truth": True, "text": "a", "row": (), "choice": Case("none"), "node": node()}[of[0]]


class TestNodesAgain(CheckCase):
    def test_rings_and_sharing(self):
        ring = node()
        ring.put("last", ring)
        self.right(ring)
        shared = Node("l")
        self.right(node(other=shared, last=node(other=shared, last=node(other=shared))))

    def test_at_a_later_place_fields_are_not_looked_at(self):
        pair = schema_of(("row", 3, ("node", "k")))
        bad = node(num=9)
        self.wrong((0, "num"), "bounds", (bad, bad), pair)
        good = node()
        self.right((good, good, good), pair)
        ring = node()
        ring.put("last", node(last=ring, num=7))
        self.wrong(("last", ("inside",), "num"), "bounds", ring)

    def test_a_later_place_may_be_of_another_kind(self):
        both = Node("l")
        self.right(node(other=both))
        self.wrong(("last", ("inside",)), "sort", node(other=both, last=both))

    def test_a_maybe_around_a_node_is_no_place_of_the_node(self):
        rows = schema_of(("row", 3, ("maybe", ("node", "k"))))
        self.wrong((0, ("inside",)), "fields", (Node("k"),), rows)
        self.wrong((0, ("inside",), "num"), "bounds", (node(num=6),), rows)
        self.right((node(), None), rows)


def count(thing):
    return 1 + sum(count(part) for part in thing) if isinstance(thing, tuple) else 1


class TestMany(CheckCase):
    def test_sixty_three_nodes(self):
        schema = Schema({"n": [(1, "next", ("row", 20, ("node", "n")))]}, root=("row", 20, ("row", 20, ("node", "n"))))
        nodes = [Node("n", {"next": ()}) for _ in range(64)]
        rows = tuple(tuple(nodes[at:at + 20]) for at in range(0, 64, 20))
        self.right((*rows[:3], rows[3][:3]), schema)
        self.wrong((3, 3), "many", rows, schema)
        # A node at a later place is none more.
        self.right((*rows[:3], (*rows[3][:3], nodes[0], nodes[62])), schema)
        self.wrong((3, 4), "many", (*rows[:3], (*rows[3][:3], nodes[0], nodes[63])), schema)

    def test_a_chain_of_nodes(self):
        schema = Schema({"n": [(1, "next", ("maybe", ("node", "n")))]}, root=("maybe", ("node", "n")))
        for many, is_right in ((62, True), (63, True), (64, False), (70, False)):
            thing = None
            for _ in range(many):
                thing = Node("n", {"next": thing})
            if is_right:
                self.right(thing, schema)
            else:
                self.wrong((("inside",),) + ("next", ("inside",)) * 63, "many", thing, schema)

    def test_the_sixty_fourth_node_of_a_wrong_sort_or_with_wrong_fields(self):
        schema = Schema({"n": [], "m": []}, root=("row", 20, ("row", 20, ("node", "n"))))
        rows = [tuple([Node("n") for _ in range(20)]) for _ in range(3)] + [(Node("n"), Node("n"), Node("n"))]
        self.right(tuple(rows), schema)
        for last, why in [(Node("m"), "sort"), (None, "sort"), (Node("n", {"a": 1}), "many"), (Node("n"), "many")]:
            self.wrong((3, 3), why, tuple(rows[:3]) + ((*rows[3], last),), schema)

    def test_the_two_thousand_and_first_place(self):
        schema = Schema({}, root=("row", 20, ("row", 20, ("row", 20, ("truth",)))))
        full = tuple([tuple([(True,) * 20] * 19)] * 5)
        # 1 + 5 * (1 + 19 * 21) = 2001
        self.assertEqual(count(full), 2001)
        self.wrong((4, 18, 19), "many", full, schema)
        self.right((*full[:4], (*full[4][:18], (True,) * 19)), schema)
        spoilt = (*full[:4], (*full[4][:18], (*(True,) * 19, 5)))
        self.wrong((4, 18, 19), "sort", spoilt, schema)
        self.wrong((4, 18, 0), "sort", (*full[:4], (*full[4][:18], (5,) * 20)), schema)
        # What is behind the place where there are too many is not met.
        self.wrong((4, 18, 19), "many", (*full, 5), schema)

    def test_many_goes_ahead_of_bounds_and_most(self):
        full = tuple([tuple([(1,) * 20] * 19)] * 5)
        last = (*full[4][:18], (*(1,) * 19, 99))
        self.wrong((4, 18, 19), "many", (*full[:4], last), number_rows())
        self.wrong((4, 18, 18), "bounds", (*full[:4], (*full[4][:18], (*(1,) * 18, 99, 1))), number_rows())

    def test_a_maybe_and_what_is_inside_are_two_places(self):
        schema = Schema({}, root=("row", 20, ("row", 20, ("row", 20, ("maybe", ("truth",))))))
        # 1 + 2 * (1 + 20 * 41) + (1 + 8 * 41) + 28 = 2000
        rows = tuple([tuple([(True,) * 20] * 20)] * 2) + (tuple([(True,) * 20] * 8),)
        self.right((*rows, ((True,) * 13,)), schema)
        self.right((*rows, ((*(True,) * 12, None, None),)), schema)
        self.wrong((3, 0, 13), "many", (*rows, ((True,) * 14,)), schema)
        self.wrong((3, 0, 13), "many", (*rows, ((*(True,) * 13, 5),)), schema)
        self.wrong((3, 0, 13, ("inside",)), "many", (*rows, ((None, *(True,) * 13),)), schema)
        self.wrong((3, 0, 13, ("inside",)), "sort", (*rows, ((None, *(True,) * 12, 5),)), schema)

    def test_a_node_counts_at_each_of_its_places(self):
        schema = Schema({"n": []}, root=("row", 20, ("row", 20, ("row", 20, ("node", "n")))))
        one = Node("n")
        full = tuple([tuple([(one,) * 20] * 19)] * 5)
        self.wrong((4, 18, 19), "many", full, schema)
        self.right((*full[:4], (*full[4][:18], (one,) * 19)), schema)
        self.wrong((4, 18, 19), "sort", (*full[:4], (*full[4][:18], (*(one,) * 19, None))), schema)

    def test_a_case_without_content_is_one_place(self):
        schema = Schema({}, choices={"c": [(1, "a", None)]}, root=("row", 20, ("row", 20, ("row", 20, ("choice", "c")))))
        full = tuple([tuple([(Case("a"),) * 20] * 19)] * 5)
        self.wrong((4, 18, 19), "many", full, schema)
        self.right((*full[:4], (*full[4][:18], (Case("a"),) * 19)), schema)
        spoilt = (*(Case("a"),) * 18, Case("a", 5))
        self.wrong((4, 18, 18, ("case", "a")), "sort", (*full[:4], (*full[4][:18], spoilt)), schema)


def number_rows():
    return Schema({}, root=("row", 20, ("row", 20, ("row", 20, ("number", 0, 9)))))


def chain(steps, inmost):
    case = inmost
    for _ in range(steps):
        case = Case("on", case)
    return case


class TestDeep(CheckCase):
    def test_one_hundred_and_sixty_steps(self):
        self.right(chain(160, Case("end")), CHAIN)
        self.right(chain(159, Case("num", 9)), CHAIN)
        self.wrong((("case", "on"),) * 161, "deep", chain(161, Case("end")), CHAIN)
        self.wrong((("case", "on"),) * 160 + (("case", "num"),), "deep", chain(160, Case("num", 9)), CHAIN)

    def test_sort_goes_ahead_and_bounds_behind(self):
        path = (("case", "on"),) * 160 + (("case", "num"),)
        self.wrong(path, "deep", chain(160, Case("num", 10)), CHAIN)
        self.wrong(path, "sort", chain(160, Case("num", "a")), CHAIN)
        self.wrong((("case", "on"),) * 161, "sort", chain(161, Case("what")), CHAIN)
        self.wrong((("case", "on"),) * 160 + (("case", "end"),), "sort", chain(160, Case("end", 1)), CHAIN)
        self.wrong((("case", "on"),) * 159 + (("case", "num"),), "bounds", chain(159, Case("num", 10)), CHAIN)

    def test_all_steps_count(self):
        schema = Schema(
            {"n": [(1, "next", ("row", 1, ("maybe", ("choice", "c"))))], "m": []},
            choices={"c": [(1, "stop", ("node", "m")), (2, "on", ("node", "n"))]}, root=("node", "n"),
        )

        def built(rounds, inmost):
            thing = inmost
            for _ in range(rounds):
                thing = Node("n", {"next": (Case("on", thing),)})
            return thing

        steps = ("next", 0, ("inside",), ("case", "on"))
        self.right(built(39, Node("n", {"next": (Case("stop", Node("m")),)})), schema)
        self.right(built(39, Node("n", {"next": (None,)})), schema)
        self.wrong(steps * 40 + ("next",), "deep", built(40, Node("n", {"next": ()})), schema)
        self.wrong(steps * 40 + ("next",), "deep", built(41, Node("n", {"next": ()})), schema)

    def test_many_goes_ahead_of_deep(self):
        schema = Schema({}, choices=CHAIN.choices, root=("row", 20, ("row", 20, ("row", 20, ("choice", "c")))))
        row = (Case("end"),) * 20
        plates = ((row,) * 19,) * 4
        # 1 + 4 * 400 + 1 + 11 * 21 + 1 = 1834 places, and then the ends ahead of the chain
        for ends, why in ((8, "many"), (7, "deep"), (9, "many")):
            for inmost, its_why in ((Case("end"), why), (Case("what"), "sort")):
                last = (*row[:ends], chain(158, inmost))
                path = (4, 11, ends) + (("case", "on"),) * 158
                if ends == 9:
                    path, its_why = path[:-1], "many"
                self.wrong(path, its_why, (*plates, (*(row,) * 11, last)), schema)

    def test_a_later_place_of_a_node_may_be_too_deep(self):
        schema = Schema(
            {"n": [(1, "first", ("maybe", ("node", "m"))), (2, "way", ("choice", "c"))], "m": []},
            choices={"c": [(1, "end", ("maybe", ("node", "m"))), (2, "on", ("choice", "c"))]}, root=("node", "n"),
        )
        one = Node("m")

        def built(steps, last):
            return Node("n", {"first": one, "way": chain(steps, Case("end", last))})

        # way, then so many cases on, the end, and inside
        self.right(built(157, one), schema)
        deep = ("way",) + (("case", "on"),) * 158 + (("case", "end"), ("inside",))
        self.assertEqual(len(deep), 161)
        self.wrong(deep, "deep", built(158, one), schema)
        self.wrong(deep, "sort", built(158, Node("n")), schema)
        self.right(built(158, None), schema)


class TestReasons(CheckCase):
    def test_of_several_the_first(self):
        self.wrong_of(("text", 3), "sort", b"abcdef")
        self.wrong_of(("row", 1, ("number", 0, 9)), "sort", [1, 2])
        self.wrong_of(("row", 1, ("number", 0, 9)), "most", (99, "a"))
        self.wrong((), "sort", Node("l", {"a": 1}))
        self.wrong((), "fields", Node("k", {"num": 99}))
        self.wrong((), "fields", Node("k", {**fields(num=99), "more": 1}))

    def test_a_checked_thing_that_is_put_something_is_another(self):
        thing = node()
        self.right(thing)
        thing.put("num", 6)
        self.wrong(("num",), "bounds", thing)
        thing.put("num", 5)
        self.right(thing)
        thing.put("more", 5)
        self.wrong((), "fields", thing)

    def test_a_copy_is_right_too(self):
        ring = node()
        ring.put("last", ring)
        self.right(copied(SCHEMA, ring))


if __name__ == "__main__":
    unittest.main()
