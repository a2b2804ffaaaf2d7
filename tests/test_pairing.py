"""How pairs of types are met, also those behind which a thing may be refused: [15]."""

import unittest

from thingwires.pairing import gone_into, inner_pair, pair_word, pairs_met, path_of
from thingwires.schemas import Schema

TRUTH, TEXT, NUMBER = ("truth",), ("text", 3), ("number", 0, 9)
NODE, CHOICE = ("node", "k"), ("choice", "c")
SORTS = [NUMBER, TRUTH, TEXT, ("row", 3, TRUTH), ("maybe", TRUTH), NODE, CHOICE]


def schema_of(root, fields=(), cases=((1, "a", None),)):
    return Schema({"k": fields}, choices={"c": cases}, root=root)


class TestPairs(unittest.TestCase):
    def met(self, old, new, *rows):
        """Hold the pairs that are met, with their paths, against rows of them."""
        found = pairs_met(old, new)
        self.assertEqual([(pair, path_of(way)) for pair, way in found.items()], list(rows))

    def test_words(self):
        for one in SORTS:
            for other in SORTS:
                word = one[0]
                if one[0] != other[0]:
                    word = {one[0]: "force", other[0]: "wrap"}.get("maybe", "bad")
                self.assertEqual(pair_word((one, other)), word)

    def test_inner_pairs(self):
        self.assertEqual(inner_pair((("row", 3, TRUTH), ("row", 0, TEXT))), (TRUTH, TEXT))
        self.assertEqual(inner_pair((("maybe", TRUTH), ("maybe", TEXT))), (TRUTH, TEXT))
        self.assertEqual(inner_pair((("maybe", TRUTH), TEXT)), (TRUTH, TEXT))
        self.assertEqual(inner_pair((TRUTH, ("maybe", TEXT))), (TRUTH, TEXT))

    def test_pairs_behind_others_at_which_a_thing_may_be_refused(self):
        row, longer = ("row", 2, NUMBER), ("row", 3, ("maybe", TEXT))
        self.met(schema_of(longer), schema_of(row), ((longer, row), ()), ((("maybe", TEXT), NUMBER), (0,)),
                 ((TEXT, NUMBER), (0, ("inside",))))
        fields = [(1, "a", NUMBER), (2, "b", TRUTH)]
        new = schema_of(NODE, [(9, "lack", TRUTH), (1, "x", TEXT), (2, "y", ("maybe", TRUTH))])
        self.met(schema_of(NODE, fields), new, ((NODE, NODE), ()), ((NUMBER, TEXT), ("x",)), ((TRUTH, ("maybe", TRUTH)), ("y",)),
                 ((TRUTH, TRUTH), ("y",)))
        cases = [(1, "a", None), (2, "b", NUMBER), (3, "c", TRUTH), (5, "d", TRUTH)]
        new = schema_of(CHOICE, cases=[(1, "p", TRUTH), (2, "q", None), (3, "r", TEXT), (4, "s", TRUTH)])
        self.met(schema_of(CHOICE, cases=cases), new, ((CHOICE, CHOICE), ()), ((TRUTH, TEXT), (("case", "r"),)))

    def test_rows_whose_most_is_none(self):
        for one, other in [(0, 0), (0, 3), (3, 0)]:
            pair = (("row", one, TRUTH), ("row", other, TRUTH))
            self.met(schema_of(pair[0]), schema_of(pair[1]), (pair, ()))
            self.assertEqual(gone_into(schema_of(TRUTH), schema_of(TRUTH), pair), [])

    def test_other_sorts_are_not_gone_into(self):
        for one in (NUMBER, TRUTH, TEXT, ("row", 3, TRUTH), NODE, CHOICE):
            for other in (NUMBER, TRUTH, TEXT, ("row", 3, TRUTH), NODE, CHOICE):
                if one != other:
                    old = schema_of(one, [(1, "a", TRUTH)], [(1, "a", TRUTH)])
                    new = schema_of(other, [(1, "a", TRUTH)], [(1, "a", TRUTH)])
                    self.met(old, new, ((one, other), ()))

    def test_once_each(self):
        fields = [(1, "on", ("maybe", NODE)), (2, "n", NUMBER), (3, "also", NODE), (4, "m", NUMBER)]
        may = ("maybe", NODE)
        self.met(schema_of(NODE, fields), schema_of(NODE, fields), ((NODE, NODE), ()), ((may, may), ("on",)),
                 ((NUMBER, NUMBER), ("n",)))


if __name__ == "__main__":
    unittest.main()
