"""Names, types and schemas: [2], [4] and [5]."""

import collections
import enum
import unittest

from oddities import Equal, Hostile, nested, odd_objects, plain_objects

from thingwires.errors import NoSchema
from thingwires.schemas import Schema, is_name

FIELD = (1, "a", ("truth",))
CASE = (1, "a", None)


class SchemaCase(unittest.TestCase):
    def refused(self, path, why, kinds, choices=None, root=("truth",)):
        with self.assertRaises(NoSchema) as caught:
            Schema(kinds, choices=choices, root=root)
        self.assertEqual(caught.exception.path, path)
        self.assertIs(type(caught.exception.path), tuple)
        self.assertEqual(caught.exception.why, why)

    def root_refused(self, root, kinds=None, choices=None):
        self.refused(("root",), "sort", {} if kinds is None else kinds, choices, root)

    def field_refused(self, why, *fields, at=0, more=None):
        self.refused(("kind", "k", at), why, {"k": fields, **({} if more is None else more)})

    def case_refused(self, why, *cases, at=0):
        self.refused(("choice", "c", at), why, {}, {"c": cases})


class TestNames(unittest.TestCase):
    def test_names(self):
        for name in ("a", "z", "abc", "abcdefgh", "zzzzzzzz", "kind", "root", "number"):
            self.assertIs(is_name(name), True, name)

    def test_no_names(self):
        for name in ("", "abcdefghi", "A", "aB", "a1", "a_", "a b", " a", "a ", "a\n", "\n", "é", "aé", "ß",
                     "\u0430", "-", "1", "`", "{", "a\x00"):
            self.assertIs(is_name(name), False, name)

    def test_any_object(self):
        for thing in odd_objects() + [True, False, None, 0, 1, ("a",), ("a", "b"), b"abc"]:
            self.assertIs(is_name(thing), False)

    def test_by_its_name(self):
        self.assertIs(is_name(thing="a"), True)


class TestTypes(SchemaCase):
    def test_types(self):
        kinds = {"k": []}
        choices = {"c": [CASE]}
        for of in [
            ("number", 0, 5), ("number", None, None), ("number", 0, None), ("number", None, 0), ("number", 7, 7),
            ("number", -10 ** 59, 10 ** 59), ("number", -5, -3), ("truth",), ("text", 0), ("text", 40),
            ("row", 0, ("truth",)), ("row", 20, ("text", 3)), ("maybe", ("truth",)), ("node", "k"), ("choice", "c"),
            ("maybe", ("row", 3, ("maybe", ("truth",)))), ("row", 1, ("row", 2, ("maybe", ("node", "k")))),
            ("row", 5, ("maybe", ("choice", "c"))),
        ]:
            self.assertEqual(Schema(kinds, choices=choices, root=of).root, of)

    def test_no_types(self):
        truth = ("truth",)
        for of in [
            ("number", 1, 0), ("number", 0), ("number",), ("number", 0, 1, 2), ("number", True, 5), ("number", 0, True),
            ("number", False, None), ("number", None, False), ("number", 0.0, 5), ("number", 0, 5.0), ("number", "0", 5),
            ("number", 0, "5"), ("truth", 1), ("truth", None), ("text",), ("text", -1), ("text", 41), ("text", True),
            ("text", None), ("text", 4.0), ("text", "4"), ("text", 4, 4), ("row", 3), ("row", -1, truth),
            ("row", 21, truth), ("row", False, truth), ("row", None, truth), ("row", 3, truth, truth), ("row", truth, 3),
            ("row", 3, ("truth", 1)), ("row", 3, None), ("maybe",), ("maybe", None), ("maybe", ("maybe", truth)),
            ("maybe", truth, truth), ("maybe", 1, truth), ("row", 3, ("maybe", ("maybe", truth))), ("maybe", "truth"),
            ("node",), ("node", "k", "k"), ("node", "x"), ("node", "c"), ("node", None), ("node", ["k"]), ("node", ("k",)),
            ("choice",), ("choice", "x"), ("choice", "k"), ("choice", "c", "c"), ("choice", {}), ("choice", Hostile()),
            ("Number", 0, 1), ("numbers", 0, 1), ("none",), (), ("",), (b"truth",), (1,), (None,), (truth,), (Hostile(),),
            (Equal(),), (Equal(), "k"), ["truth"], ["number", 0, 5], "truth", "t", {"truth"}, b"truth",
            ("node", Equal()), ("text", Hostile()), ("row", Hostile(), truth), ("row", 3, Hostile()),
            ("maybe", Hostile()), ("number", Hostile(), 5), ("number", 5, Hostile()), ("row", 3, ["truth"]),
        ]:
            self.root_refused(of, {"k": []}, {"c": [CASE]})

    def test_root_may_be_any_object(self):
        for of in odd_objects() + plain_objects():
            self.root_refused(of)

    def test_no_type_however_deep(self):
        for depth in (1, 3, 500, 50000):
            self.root_refused(nested(depth, ("truth", 1), "row", 3))
            self.root_refused(nested(depth, Hostile(), "row", 3))
            self.root_refused(nested(depth, 5, "maybe"))
            self.root_refused(nested(depth, (), "node"))
            self.root_refused(nested(depth, ()))
            self.field_refused("sort", (1, "a", nested(depth, ("nothing",), "row", 3)))
            self.case_refused("sort", (1, "a", nested(depth, ("nothing",), "row", 3)))
        wrapped = ("truth", 1)
        for _ in range(20000):
            wrapped = ("row", 2, ("maybe", wrapped))
        self.root_refused(wrapped)

    def test_node_and_choice_are_of_the_schema(self):
        self.root_refused(("node", "a"), {"b": []}, {"a": [CASE]})
        self.root_refused(("choice", "a"), {"a": []}, {"b": [CASE]})
        self.root_refused(("choice", "a"), {"a": []})
        self.field_refused("sort", (1, "a", ("node", "x")))
        self.case_refused("sort", (1, "a", ("choice", "x")))


class TestSchemaFields(SchemaCase):
    def test_rows_are_tuples_by_rising_numbers(self):
        schema = Schema(
            {"k": [(9, "a", ("truth",)), (1, "b", ("text", 3), "x"), (99, "c", ("node", "k"))], "e": []},
            choices={"c": [(5, "five", None), (0, "no", None), (3, "three", ("truth",))]},
            root=("node", "k"),
        )
        self.assertEqual(
            schema.kinds,
            {"k": ((1, "b", ("text", 3), "x"), (9, "a", ("truth",)), (99, "c", ("node", "k"))), "e": ()},
        )
        self.assertEqual(schema.choices, {"c": ((0, "no", None), (3, "three", ("truth",)), (5, "five", None))})
        self.assertEqual(schema.root, ("node", "k"))
        self.assertIs(type(schema.kinds), dict)
        self.assertIs(type(schema.kinds["k"]), tuple)
        self.assertIs(type(schema.choices["c"]), tuple)
        self.assertEqual(list(schema.kinds), ["k", "e"])

    def test_no_choices_where_none_was_handed_in(self):
        self.assertEqual(Schema({}, root=("truth",)).choices, {})
        self.assertEqual(Schema({}, choices=None, root=("truth",)).choices, {})
        self.assertEqual(Schema({}, choices={}, root=("truth",)).choices, {})

    def test_arguments(self):
        self.assertEqual(Schema(root=("truth",), choices={}, kinds={"k": ()}).kinds, {"k": ()})
        with self.assertRaises(TypeError):
            Schema({}, {}, ("truth",))
        with self.assertRaises(TypeError):
            Schema({})

    def test_rows_may_be_lists_or_tuples(self):
        one = Schema({"k": [FIELD]}, choices={"c": [CASE]}, root=("truth",))
        two = Schema({"k": (FIELD,)}, choices={"c": (CASE,)}, root=("truth",))
        self.assertEqual((one.kinds, one.choices), (two.kinds, two.choices))

    def test_what_is_handed_in_stays(self):
        kinds = {"k": [(2, "b", ("truth",)), (1, "a", ("truth",))]}
        choices = {"c": [(2, "b", None), (1, "a", None)]}
        schema = Schema(kinds, choices=choices, root=("node", "k"))
        self.assertEqual(kinds, {"k": [(2, "b", ("truth",)), (1, "a", ("truth",))]})
        self.assertEqual(choices, {"c": [(2, "b", None), (1, "a", None)]})
        kinds["k"].append((3, "c", ("truth",)))
        kinds["x"] = []
        choices["c"].clear()
        del choices["c"]
        self.assertEqual(schema.kinds, {"k": ((1, "a", ("truth",)), (2, "b", ("truth",)))})
        self.assertEqual(schema.choices, {"c": ((1, "a", None), (2, "b", None))})

    def test_a_refused_schema_changes_nothing(self):
        kinds = {"k": [(2, "b", ("truth",)), (1, "a", ("truth",)), 5]}
        self.refused(("kind", "k", 2), "row", kinds)
        self.assertEqual(kinds, {"k": [(2, "b", ("truth",)), (1, "a", ("truth",)), 5]})

    def test_a_kind_and_a_choice_may_have_one_name(self):
        schema = Schema({"a": [(1, "a", ("choice", "a"))]}, choices={"a": [(1, "a", ("node", "a"))]}, root=("node", "a"))
        self.assertEqual(list(schema.kinds), list(schema.choices))

    def test_a_kind_may_have_no_fields_and_a_schema_no_kinds(self):
        self.assertEqual(Schema({"k": ()}, root=("node", "k")).kinds, {"k": ()})
        self.assertEqual(Schema({}, root=("truth",)).kinds, {})

    def test_subclasses_are_taken_by_their_sort(self):
        number = enum.IntEnum("number", [("one", 1)])
        field = collections.namedtuple("field", ["number", "name", "of"])
        schema = Schema({"k": [field(number.one, "a", ("truth",))]}, root=("truth",))
        self.assertEqual(schema.kinds, {"k": ((1, "a", ("truth",)),)})


class TestHeads(SchemaCase):
    def test_a_key_that_is_no_name(self):
        for key in ["", "A", "abcdefghi", "a b", 1, True, None, (), ("a",), b"a", 1.5, frozenset(), object(), len, Equal()]:
            self.refused(("kind", key, -1), "name", {key: [FIELD]})
            self.refused(("choice", key, -1), "name", {}, {key: [CASE]})

    def test_the_key_itself_is_in_the_path(self):
        key = object()
        with self.assertRaises(NoSchema) as caught:
            Schema({key: []}, root=("truth",))
        self.assertIs(caught.exception.path[1], key)

    def test_a_row_that_is_none(self):
        rows = odd_objects() + [True, None, 0, "", "abc", b"ab", {1: FIELD}]
        for row in rows:
            if not isinstance(row, (list, tuple)):
                self.refused(("kind", "k", -1), "row", {"k": row})
                self.refused(("choice", "c", -1), "row", {}, {"c": row})

    def test_a_choice_without_cases(self):
        self.refused(("choice", "c", -1), "row", {}, {"c": []})
        self.refused(("choice", "c", -1), "row", {}, {"c": ()})

    def test_the_name_goes_ahead_of_the_row(self):
        self.refused(("kind", "A", -1), "name", {"A": 5})
        self.refused(("choice", "A", -1), "name", {}, {"A": 5})
        self.refused(("choice", "A", -1), "name", {}, {"A": []})

    def test_the_head_goes_ahead_of_what_is_within(self):
        self.refused(("kind", "A", -1), "name", {"A": [5]})
        self.refused(("choice", "A", -1), "name", {}, {"A": [5]})


class TestFields(SchemaCase):
    def test_row(self):
        for field in [(), (1,), (1, "a"), (1, "a", ("truth",), True, 5), [1, "a", ("truth",)], "abc", None, 5, True, {}]:
            self.field_refused("row", field)
        for field in odd_objects():
            self.field_refused("row", field)

    def test_name(self):
        for name in ["", "A", "abcdefghi", "a1", None, 1, True, b"a", ("a",), ["a"], Hostile(), Equal()]:
            self.field_refused("name", (1, name, ("truth",)))

    def test_number(self):
        for number in [0, 100, -1, True, False, None, 1.0, "1", (1,), [1], 10 ** 70, Hostile(), Equal()]:
            self.field_refused("number", (number, "a", ("truth",)))
        for number in (1, 2, 99):
            self.assertEqual(Schema({"k": [(number, "a", ("truth",))]}, root=("truth",)).kinds["k"][0][0], number)

    def test_sort(self):
        for of in plain_objects() + odd_objects():
            self.field_refused("sort", (1, "a", of))
            self.field_refused("sort", (1, "a", of, None))

    def test_names_alike(self):
        other = (2, "a", ("truth",))
        self.field_refused("name", FIELD, other, at=1)
        self.field_refused("name", other, FIELD, at=1)
        self.field_refused("name", FIELD, (3, "b", ("truth",)), other, at=2)

    def test_numbers_alike(self):
        other = (1, "b", ("truth",))
        self.field_refused("number", FIELD, other, at=1)
        self.field_refused("number", FIELD, (3, "c", ("truth",)), other, at=2)
        self.field_refused("name", FIELD, FIELD, at=1)

    def test_of_unlike_kinds_names_and_numbers_may_be_alike(self):
        self.assertEqual(len(Schema({"k": [FIELD], "l": [FIELD]}, root=("truth",)).kinds), 2)

    def test_the_first_reason(self):
        self.field_refused("row", (0, "A", 5, 5, 5))
        self.field_refused("name", (0, "A", 5, 5))
        self.field_refused("number", (0, "a", 5, 5))
        self.field_refused("sort", (1, "a", 5, 5))
        self.field_refused("default", (1, "a", ("truth",), 5))
        self.field_refused("name", FIELD, (0, "a", 5, 5), at=1)
        self.field_refused("number", FIELD, (1, "b", 5, 5), at=1)

    def test_a_fault_ahead_in_the_row(self):
        self.field_refused("default", (2, "b", ("truth",), 5), (1, "A", 5), at=0)
        self.field_refused("sort", FIELD, (2, "b", 5), 5, at=1)
        self.field_refused("sort", (9, "b", ("truth",)), (8, "c", 5), (7, "d", 5), at=1)


class TestCases(SchemaCase):
    def test_row(self):
        for case in [(), (1,), (1, "a"), (1, "a", None, None), (1, "a", ("truth",), True), [1, "a", None], "abc", None]:
            self.case_refused("row", case)
        for case in odd_objects():
            self.case_refused("row", case)

    def test_name(self):
        for name in ["", "A", "abcdefghi", None, 1, Hostile(), Equal(), ["a"]]:
            self.case_refused("name", (1, name, None))

    def test_number(self):
        for number in [100, -1, True, False, None, 0.0, "0", Hostile(), Equal()]:
            self.case_refused("number", (number, "a", None))
        for number in (0, 1, 99):
            schema = Schema({}, choices={"c": [(number, "a", None)]}, root=("truth",))
            self.assertEqual(schema.choices["c"], ((number, "a", None),))

    def test_sort(self):
        for of in plain_objects() + odd_objects():
            if of is not None:
                self.case_refused("sort", (1, "a", of))

    def test_case_0_has_no_content(self):
        self.case_refused("sort", (0, "a", ("truth",)))
        self.case_refused("sort", (0, "a", 5))
        self.case_refused("sort", CASE, (0, "b", ("truth",)), at=1)

    def test_alike(self):
        self.case_refused("name", CASE, (2, "a", None), at=1)
        self.case_refused("number", CASE, (1, "b", None), at=1)
        self.case_refused("number", (0, "a", None), (0, "b", None), at=1)
        self.case_refused("name", CASE, CASE, at=1)

    def test_the_first_reason(self):
        self.case_refused("row", (100, "A", 5, 5))
        self.case_refused("name", (100, "A", 5))
        self.case_refused("number", (100, "a", 5))
        self.case_refused("sort", (0, "a", 5))


class TestDefaults(SchemaCase):
    def fits(self, of, default):
        field = (1, "a", of, default)
        self.assertEqual(Schema({"k": [field]}, choices={"c": [CASE]}, root=("truth",)).kinds["k"], (field,))

    def unfit(self, of, default):
        self.refused(("kind", "k", 0), "default", {"k": [(1, "a", of, default)]}, {"c": [CASE]})

    def test_numbers(self):
        for default in (3, 4, 5):
            self.fits(("number", 3, 5), default)
        for default in (2, 6, True, None, 4.0, "4", (), -4):
            self.unfit(("number", 3, 5), default)
        for default in (True, False, None):
            self.unfit(("number", None, None), default)
        self.fits(("number", None, None), 10 ** 60 - 1)
        self.fits(("number", None, None), 1 - 10 ** 60)
        self.unfit(("number", None, None), 10 ** 60)
        self.unfit(("number", None, None), -10 ** 60)
        self.unfit(("number", 0, None), -1)
        self.unfit(("number", None, 0), 1)

    def test_truths(self):
        self.fits(("truth",), True)
        self.fits(("truth",), False)
        for default in (0, 1, None, "yes", ()):
            self.unfit(("truth",), default)

    def test_texts(self):
        for default in ("", "abc", '"\\ '):
            self.fits(("text", 3), default)
        for default in ("abcd", None, b"abc", ("a",), ["a"], 3, True):
            self.unfit(("text", 3), default)
        self.fits(("text", 0), "")
        self.unfit(("text", 0), "a")
        self.fits(("text", 40), "x" * 40)

    def test_rows(self):
        self.fits(("row", 3, ("truth",)), ())
        self.fits(("row", 0, ("truth",)), ())
        for default in ([], (True,), None, "", 0, False, {}, set()):
            self.unfit(("row", 3, ("truth",)), default)

    def test_maybes(self):
        self.fits(("maybe", ("truth",)), None)
        for default in (True, False, 0, (), ""):
            self.unfit(("maybe", ("truth",)), default)

    def test_other_types_have_none(self):
        for of in (("node", "k"), ("choice", "c")):
            for default in (None, (), 0, "", "k", "a", True):
                self.unfit(of, default)

    def test_any_object(self):
        for of in (("number", 0, 5), ("truth",), ("text", 3), ("row", 3, ("truth",)), ("maybe", ("truth",)), ("node", "k")):
            for default in odd_objects() + [nested(50000, 5)]:
                self.unfit(of, default)


class TestOrder(SchemaCase):
    def test_kinds_in_their_dicts_order(self):
        self.refused(("kind", "z", 0), "row", {"z": [5], "a": [5]})
        self.refused(("kind", "a", -1), "row", {"a": 5, "Z": 5})
        self.refused(("kind", "Z", -1), "name", {"Z": [], "a": 5})
        self.refused(("kind", "z", 1), "default", {"z": [FIELD, (2, "b", ("truth",), 5)], "A": 5})

    def test_choices_in_their_dicts_order(self):
        self.refused(("choice", "z", 0), "row", {}, {"z": [5], "a": [5]})
        self.refused(("choice", "a", -1), "row", {}, {"a": 5, "Z": 5})

    def test_kinds_ahead_of_choices_ahead_of_root(self):
        self.refused(("kind", "k", 0), "default", {"k": [(1, "a", ("truth",), 5)]}, {"A": 5}, 5)
        self.refused(("choice", "c", 0), "sort", {"k": [FIELD]}, {"c": [(0, "a", 5)]}, 5)
        self.refused(("root",), "sort", {"k": [FIELD]}, {"c": [CASE]}, 5)

    def test_a_type_may_name_what_is_refused_further_on(self):
        self.refused(("kind", "b", -1), "row", {"a": [(1, "a", ("node", "b"))], "b": 5})
        self.refused(("choice", "c", -1), "row", {"a": [(1, "a", ("choice", "c"))]}, {"c": []})
        self.refused(("kind", "a", 0), "sort", {"a": [(1, "a", ("node", "B"))], "B": []})

    def test_what_is_come_back_to_is_behind_all_else(self):
        ring = {"c": [(1, "a", ("choice", "c"))]}
        self.refused(("root",), "sort", {}, ring, 5)
        self.refused(("choice", "d", -1), "row", {}, {**ring, "d": []})
        self.refused(("choice", "c", -1), "sort", {}, ring)


class TestComingBack(SchemaCase):
    def test_to_itself(self):
        self.refused(("choice", "c", -1), "sort", {}, {"c": [(1, "a", ("choice", "c"))]})
        self.refused(("choice", "c", -1), "sort", {}, {"c": [(2, "b", None), (1, "a", ("choice", "c"))]})

    def test_by_others(self):
        one, two, three = [(1, "a", ("choice", "b"))], [(1, "a", ("choice", "c"))], [(1, "a", ("choice", "a"))]
        self.refused(("choice", "a", -1), "sort", {}, {"a": one, "b": two, "c": three})
        self.refused(("choice", "c", -1), "sort", {}, {"c": three, "b": two, "a": one})

    def test_one_that_leads_into_a_ring_is_not_in_it(self):
        ring = {"x": [(1, "a", ("choice", "b"))], "b": [(1, "a", ("choice", "c"))], "c": [(1, "a", ("choice", "b"))]}
        self.refused(("choice", "b", -1), "sort", {}, ring)

    def test_only_by_the_least_case(self):
        for row in ([(0, "no", None), (1, "a", ("choice", "c"))], [(2, "b", ("choice", "c")), (1, "a", ("truth",))]):
            self.assertEqual(list(Schema({}, choices={"c": row}, root=("choice", "c")).choices), ["c"])

    def test_only_from_choice_to_choice(self):
        for of in (("maybe", ("choice", "c")), ("row", 3, ("choice", "c")), ("node", "k")):
            schema = Schema({"k": [(1, "a", ("choice", "c"))]}, choices={"c": [(1, "a", of)]}, root=("choice", "c"))
            self.assertEqual(schema.choices["c"], ((1, "a", of),))

    def test_a_long_way_that_ends(self):
        choices = {"a": [(1, "a", ("choice", "b"))], "b": [(1, "a", ("choice", "c"))], "c": [(1, "a", None)]}
        self.assertEqual(len(Schema({}, choices=choices, root=("choice", "a")).choices), 3)


if __name__ == "__main__":
    unittest.main()
