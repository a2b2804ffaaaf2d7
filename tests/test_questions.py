"""Questions that are asked of things: [27] and [28]."""

import random
import unittest

from chances import FAR, chance_schema, chance_thing
from oddities import Equal, Hostile, odd_objects, plain_objects

from thingwires.errors import NoQuestion
from thingwires.questions import asked
from thingwires.schemas import Schema
from thingwires.things import Case, Node, plain, told

KINDS = {
    "k": [
        (1, "n", ("number", None, None)), (2, "t", ("truth",)), (3, "s", ("text", 9)), (4, "r", ("row", 3, ("row", 3, ("node", "l")))),
        (5, "m", ("maybe", ("node", "k"))), (6, "c", ("choice", "c")), (7, "w", ("row", 0, ("truth",))),
    ],
    "l": [(1, "up", ("maybe", ("node", "k"))), (2, "many", ("maybe", ("row", 3, ("maybe", ("truth",)))))],
}
CHOICES = {"c": [(0, "none", None), (1, "num", ("number", 0, 9)), (2, "on", ("choice", "c")), (3, "may", ("maybe", ("truth",)))]}
SCHEMA = Schema(KINDS, choices=CHOICES, root=("node", "k"))


def schema_of(root):
    return Schema(KINDS, choices=CHOICES, root=root)


def field(name):
    return ("field", name)


def item(number):
    return ("item", number)


def case(name):
    return ("case", name)


INSIDE = ("inside",)


def branch(**more):
    return Node("k", {"n": 1, "t": False, "s": "", "r": (), "m": None, "c": Case("none"), "w": (), **more})


def leaf(**more):
    return Node("l", {"up": None, "many": None, **more})


class AskCase(unittest.TestCase):
    def answers(self, answer, thing, *question, schema=SCHEMA):
        for row in (question, list(question)):
            found = asked(schema, thing, row)
            self.assertEqual(found, answer)
            self.assertIs(type(found), tuple)
            self.assertEqual([type(part) for part in found], [type(part) for part in answer])

    def refused(self, at, *question, schema=SCHEMA, thing=None):
        thing = plain(schema, schema.root) if thing is None else thing
        for row in (question, list(question)):
            with self.assertRaises(NoQuestion) as caught:
                asked(schema, thing, row)
            self.assertEqual(caught.exception.at, at)
            self.assertIs(type(caught.exception.at), int)


class TestAnswers(AskCase):
    def test_at_the_top(self):
        for root, thing, answer in [
            (("number", None, None), FAR, ("number", FAR)), (("number", 0, 9), 0, ("number", 0)), (("truth",), True, ("truth", True)),
            (("truth",), False, ("truth", False)), (("text", 9), 'a "b"', ("text", 'a "b"')), (("text", 9), "", ("text", "")),
            (("row", 3, ("truth",)), (), ("row", 0)), (("row", 3, ("truth",)), (True, False, True), ("row", 3)),
            (("maybe", ("truth",)), None, ("nothing",)), (("maybe", ("truth",)), False, ("maybe",)),
            (("choice", "c"), Case("none"), ("choice", "none")), (("choice", "c"), Case("num", 5), ("choice", "num")),
            (("node", "k"), branch(), ("node", "k")), (("maybe", ("node", "l")), leaf(), ("maybe",)),
        ]:
            self.answers(answer, thing, schema=schema_of(root))

    def test_fields(self):
        thing = branch(n=-5, t=True, s="x y", c=Case("num", 3))
        for name, answer in [("n", ("number", -5)), ("t", ("truth", True)), ("s", ("text", "x y")), ("r", ("row", 0)),
                             ("m", ("nothing",)), ("c", ("choice", "num")), ("w", ("row", 0))]:
            self.answers(answer, thing, field(name))

    def test_items(self):
        thing = branch(r=((), (leaf(), leaf(many=(True, None)))))
        self.answers(("row", 2), thing, field("r"))
        self.answers(("row", 0), thing, field("r"), item(0))
        self.answers(("row", 2), thing, field("r"), item(1))
        self.answers(("node", "l"), thing, field("r"), item(1), item(1))
        self.answers(("maybe",), thing, field("r"), item(1), item(1), field("many"))
        self.answers(("row", 2), thing, field("r"), item(1), item(1), field("many"), INSIDE)
        self.answers(("truth", True), thing, field("r"), item(1), item(1), field("many"), INSIDE, item(0), INSIDE)
        self.answers(("nothing",), thing, field("r"), item(1), item(1), field("many"), INSIDE, item(1))

    def test_places_that_a_row_has_not(self):
        thing = branch(r=((), (leaf(),)))
        self.answers(("none", 1), thing, field("r"), item(2))
        self.answers(("none", 2), thing, field("r"), item(0), item(0))
        self.answers(("none", 2), thing, field("r"), item(1), item(1), field("up"), INSIDE)
        # Also beyond the most that a row may have.
        self.answers(("none", 1), thing, field("r"), item(3))
        self.answers(("none", 1), thing, field("r"), item(FAR))
        self.answers(("none", 1), thing, field("r"), item(10 ** 70))
        self.answers(("none", 1), thing, field("w"), item(0))
        self.answers(("none", 0), (), item(0), schema=schema_of(("row", 3, ("truth",))))

    def test_cases(self):
        thing = branch(c=Case("on", Case("num", 7)))
        self.answers(("choice", "on"), thing, field("c"))
        self.answers(("choice", "num"), thing, field("c"), case("on"))
        self.answers(("number", 7), thing, field("c"), case("on"), case("num"))
        self.answers(("none", 2), thing, field("c"), case("on"), case("on"))
        self.answers(("none", 1), thing, field("c"), case("num"))
        self.answers(("none", 1), thing, field("c"), case("may"), INSIDE)
        self.answers(("none", 1), branch(), field("c"), case("num"))
        self.answers(("nothing",), branch(c=Case("may")), field("c"), case("may"))
        self.answers(("none", 2), branch(c=Case("may")), field("c"), case("may"), INSIDE)
        self.answers(("truth", False), branch(c=Case("may", False)), field("c"), case("may"), INSIDE)

    def test_maybes(self):
        thing = branch(m=branch(n=2))
        self.answers(("maybe",), thing, field("m"))
        self.answers(("node", "k"), thing, field("m"), INSIDE)
        self.answers(("number", 2), thing, field("m"), INSIDE, field("n"))
        self.answers(("nothing",), thing, field("m"), INSIDE, field("m"))
        self.answers(("none", 3), thing, field("m"), INSIDE, field("m"), INSIDE)
        self.answers(("none", 3), thing, field("m"), INSIDE, field("m"), INSIDE, field("n"))
        self.answers(("none", 0), None, INSIDE, schema=schema_of(("maybe", ("truth",))))
        self.answers(("truth", False), False, INSIDE, schema=schema_of(("maybe", ("truth",))))
        self.answers(("number", 0), 0, INSIDE, schema=schema_of(("maybe", ("number", 0, 9))))
        self.answers(("text", ""), "", INSIDE, schema=schema_of(("maybe", ("text", 9))))
        self.answers(("row", 0), (), INSIDE, schema=schema_of(("maybe", ("row", 3, ("truth",)))))

    def test_rings(self):
        one, two = branch(n=1), branch(n=2)
        one.put("m", two)
        two.put("m", one)
        round_once = [field("m"), INSIDE]
        self.answers(("number", 2), one, *round_once, field("n"))
        self.answers(("number", 1), one, *round_once * 30, field("n"))
        self.answers(("number", 2), one, *round_once * 31, field("n"))
        self.answers(("maybe",), one, *round_once * 500, field("m"))

    def test_the_thing_stays(self):
        thing = branch(r=((leaf(),),))
        before = told(SCHEMA, thing)
        question = [field("r"), item(0), item(0), field("up")]
        self.assertEqual(asked(SCHEMA, thing, question), ("nothing",))
        self.assertEqual(told(SCHEMA, thing), before)
        self.assertEqual(question, [field("r"), item(0), item(0), field("up")])

    def test_arguments_by_their_names(self):
        self.assertEqual(asked(question=[field("n")], thing=branch(), schema=SCHEMA), ("number", 1))


class TestRefusals(AskCase):
    def test_what_goes_with_each_sort(self):
        steps = {"row": item(0), "maybe": INSIDE, "node": field("n"), "choice": case("num")}
        for root in [("number", 0, 9), ("truth",), ("text", 9), ("row", 3, ("truth",)), ("maybe", ("truth",)), ("node", "k"), ("choice", "c")]:
            for word, step in steps.items():
                if word == root[0]:
                    self.assertNotEqual(asked(schema_of(root), plain(SCHEMA, root), [step]), ())
                else:
                    self.refused(0, step, schema=schema_of(root))

    def test_names_that_there_are_not(self):
        for name in ["up", "num", "k", "c ", "", "N", "nn", None, 1, 0, True, ("n",), ["n"], b"n", {}, Hostile(), Equal()]:
            self.refused(0, field(name))
        for name in ["none", "n", "c", "", "NUM", None, 1, 0, 2, True, ("num",), b"num", Hostile(), Equal()]:
            self.refused(1, field("c"), case(name))
        self.refused(2, field("c"), case("on"), case("none"))

    def test_numbers_of_items(self):
        for number in [-1, -FAR, -10 ** 70, True, False, None, "0", "", 0.0, 1.5, (0,), [0], b"0", Hostile(), Equal()]:
            self.refused(1, field("r"), item(number))

    def test_words(self):
        for word in ["", "Field", "fields", "number", "row", "node", "maybe", "choice", "none", None, 0, 1, True, ("field",), b"field",
                     Hostile(), Equal(), object(), ["field"]]:
            self.refused(0, (word, "n"))
            self.refused(0, (word,))
            self.refused(1, field("m"), (word,))
            self.refused(1, field("r"), (word, 0))
            self.refused(1, field("c"), (word, "num"))

    def test_lengths(self):
        for step in [(), ("field",), ("field", "n", "n"), ("inside",), ("inside", "n"), ("n",), ("field", "n", None)]:
            self.refused(0, step)
        for step in [(), ("item",), ("item", 0, 0), (0,)]:
            self.refused(1, field("r"), step)
        for step in [(), ("case",), ("case", "num", "num"), ("num",)]:
            self.refused(1, field("c"), step)
        for step in [(), ("inside", "inside"), ("inside", 0), ("inside", None), ("inside", Hostile()), ("inside", ())]:
            self.refused(1, field("m"), step)

    def test_any_object(self):
        for thing in [*odd_objects(), *plain_objects(), ["field", "n"], ["inside"], "inside", "field", {"field": "n"}, {"field", "n"},
                      b"inside", branch(), Case("num"), Case("field", "n"), AskCase]:
            self.refused(0, thing)
            self.refused(0, thing, field("n"))
            self.refused(1, field("m"), thing)
            self.refused(1, field("n"), thing)
            self.refused(2, field("m"), INSIDE, thing, INSIDE)
            self.refused(0, (thing, thing))
            self.refused(1, field("r"), (thing, 0))
            self.refused(0, ("field", thing))

    def test_the_first_step(self):
        self.refused(0, INSIDE, None, item(-1))
        self.refused(1, field("n"), field("n"))
        self.refused(2, field("r"), item(0), field("up"))
        self.refused(4, field("r"), item(0), item(0), field("up"), field("n"), None)

    def test_refused_also_where_a_step_ahead_can_not_be_gone(self):
        self.refused(2, field("r"), item(9), field("n"))
        self.refused(2, field("m"), INSIDE, field("up"))
        self.refused(3, field("m"), INSIDE, field("m"), field("n"))
        self.refused(2, field("c"), case("num"), INSIDE)
        self.refused(0, item(0), schema=schema_of(("maybe", ("row", 3, ("truth",)))), thing=(True,))


class TestByChance(AskCase):
    def walk(self, chance, schema, thing):
        """Go down from a thing by chance: the steps, and what is answered behind them."""
        of, steps = schema.root, []
        while True:
            word = of[0]
            if word in ("number", "truth", "text") or chance.random() < 0.1:
                break
            if word == "row":
                steps.append(item(chance.randrange(of[1] + 2)))
                if steps[-1][1] >= len(thing):
                    return steps, ("none", len(steps) - 1)
                of, thing = of[2], thing[steps[-1][1]]
            elif word == "maybe":
                steps.append(INSIDE)
                if thing is None:
                    return steps, ("none", len(steps) - 1)
                of = of[1]
            elif word == "node":
                rows = schema.kinds[of[1]]
                if not rows:
                    break
                _, name, of, *_ = chance.choice(rows)
                steps.append(field(name))
                thing = thing.fields[name]
            else:
                rows = [row for row in schema.choices[of[1]] if row[2] is not None]
                if not rows:
                    break
                _, name, of = chance.choice(rows)
                steps.append(case(name))
                if name != thing.word:
                    return steps, ("none", len(steps) - 1)
                thing = thing.content
        ends = {"row": lambda: ("row", len(thing)), "node": lambda: ("node", of[1]), "choice": lambda: ("choice", thing.word),
                "maybe": lambda: ("nothing",) if thing is None else ("maybe",)}
        return steps, ends.get(of[0], lambda: (of[0], thing))()

    def test_as_the_rules_are_told(self):
        lengths = {}
        for seed in range(500):
            chance = random.Random(seed)
            schema = chance_schema(chance)
            thing = chance_thing(chance, schema)
            for _ in range(5):
                steps, answer = self.walk(chance, schema, thing)
                self.answers(answer, thing, *steps, schema=schema)
                lengths[len(steps)] = True
        self.assertGreater(max(lengths), 8)


if __name__ == "__main__":
    unittest.main()
