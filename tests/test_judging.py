"""The judge: [34]."""

import random
import unittest

from chances import chance_edition, chance_schema, chance_thing
from oddities import odd_objects, plain_objects

from thingwires.errors import NoThing, NoTurn
from thingwires.judging import judge_meets, judge_reader
from thingwires.meeting import meets
from thingwires.pairing import gone_into, pairs_met
from thingwires.readers import made
from thingwires.reasons import first_refusal
from thingwires.schemas import Schema
from thingwires.things import Case, Node
from thingwires.turning import turned

TRUTH = ("truth",)
NUMBER = ("number", None, None)
SMALL = ("number", 0, 5)
LARGE = ("number", 0, 9)


def schema_of(root, choices=None, **kinds):
    return Schema(kinds, choices=choices, root=root)


OLD = schema_of(("node", "k"), k=[(1, "a", ("row", 3, SMALL)), (2, "on", ("maybe", ("node", "k"))), (3, "c", ("choice", "c"))],
                choices={"c": [(1, "x", TRUTH), (2, "y", None)]})
NEW = schema_of(("node", "n"), n=[(1, "a", ("row", 4, LARGE)), (2, "on", ("maybe", ("node", "n"))), (3, "c", ("choice", "d"))],
                choices={"d": [(1, "x", ("maybe", TRUTH)), (2, "y", None)]})
PAIRS = (
    (("node", "k"), ("node", "n")), (("row", 3, SMALL), ("row", 4, LARGE)), (SMALL, LARGE),
    (("maybe", ("node", "k")), ("maybe", ("node", "n"))), (("choice", "c"), ("choice", "d")), (TRUTH, ("maybe", TRUTH)), (TRUTH, TRUTH),
)


class TestAlways(unittest.TestCase):
    def judged(self, verdict, *pairs, old=OLD, new=NEW):
        for paper in [("always", pairs), ["always", list(pairs)], ("always", [list(pair) for pair in pairs])]:
            found = judge_meets(old, new, paper)
            self.assertEqual(found, verdict)
            self.assertIs(type(found), type(verdict))

    def test_right(self):
        self.assertEqual(meets(OLD, NEW), ("always", PAIRS))
        self.judged("right", *PAIRS)
        self.assertEqual(judge_meets(paper=meets(OLD, NEW), new=NEW, old=OLD), "right")

    def test_pairs_in_another_order_and_more_than_needed(self):
        self.judged("right", PAIRS[0], *PAIRS[:0:-1])
        self.judged("right", *PAIRS, *PAIRS)
        self.judged("right", *PAIRS, (("text", 3), ("text", 4)))
        self.judged("right", PAIRS[0], (LARGE, NUMBER), *PAIRS[1:])

    def test_root(self):
        self.judged("root")
        self.judged("root", *PAIRS[1:], PAIRS[0])
        self.judged("root", *PAIRS[1:])
        self.judged("root", (NUMBER, TRUTH))
        self.judged("root", PAIRS[0][::-1], *PAIRS[1:])

    def test_open(self):
        for at, lead in [(1, 0), (2, 1), (3, 0), (4, 0), (5, 4), (6, 5)]:
            self.judged(("open", lead), *PAIRS[:at], *PAIRS[at + 1:])
        self.judged(("open", 0), PAIRS[0])
        self.judged(("open", 1), PAIRS[0], PAIRS[1], PAIRS[3], PAIRS[4], PAIRS[5], PAIRS[6])
        # A pair that is more than needed is gone into as well.
        self.judged(("open", 7), *PAIRS, (("row", 1, LARGE), ("row", 1, NUMBER)))
        self.judged("right", *PAIRS, (("row", 0, LARGE), ("row", 1, TRUTH)))

    def test_refused(self):
        for pair in [(LARGE, SMALL), (TRUTH, SMALL), (("text", 4), ("text", 3)), (("row", 2, TRUTH), ("row", 1, TRUTH)), (("maybe", TRUTH), TRUTH)]:
            self.judged(("refused", 7), *PAIRS, pair)
            self.judged(("refused", 1), PAIRS[0], pair, *PAIRS[1:])
            self.judged(("refused", 1), PAIRS[0], pair, pair, *PAIRS[1:])
        # Of both at one pair "refused", and of two pairs the first.
        self.judged(("refused", 7), *PAIRS, (("row", 2, LARGE), ("row", 1, NUMBER)))
        self.judged(("open", 1), *PAIRS[:2], *PAIRS[3:], (LARGE, SMALL))
        self.judged(("open", 0), PAIRS[0], (LARGE, SMALL), *PAIRS[2:])
        lacking = schema_of(("node", "n"), n=[(1, "a", TRUTH), (2, "b", TRUTH)])
        self.judged(("refused", 0), (("node", "k"), ("node", "n")), old=schema_of(("node", "k"), k=[(1, "a", TRUTH)]), new=lacking)
        few = schema_of(("choice", "c"), choices={"c": [(1, "a", None)]})
        many = schema_of(("choice", "c"), choices={"c": [(1, "a", None), (2, "b", None)]})
        self.judged(("refused", 0), (("choice", "c"), ("choice", "c")), old=many, new=few)
        self.judged("right", (("choice", "c"), ("choice", "c")), old=few, new=many)

    def test_pairs_of_what_is_no_type_of_theirs(self):
        for pair in [(("node", "n"), ("node", "k")), (("choice", "d"), ("choice", "c")), (("node", "k"), ("node", "k")), (SMALL,), (), (SMALL, LARGE, LARGE),
                     (("number", 0), LARGE), ("number", "number"), (None, None), (("maybe", ("maybe", TRUTH)), ("maybe", ("maybe", TRUTH)))]:
            self.judged(("refused", 7), *PAIRS, pair)

    def test_spoilt_by_chance(self):
        for seed in range(300):
            chance = random.Random(seed)
            old = chance_schema(chance)
            new = chance_edition(chance, old)
            paper = meets(old, new)
            self.assertEqual(judge_meets(old, new, paper), "right")
            pairs = list(pairs_met(old, new))
            if paper[0] == "always":
                for at in range(len(pairs)):
                    fewer = pairs[:at] + pairs[at + 1:]
                    self.judged(self.expected(old, new, fewer), *fewer, old=old, new=new)
            chance.shuffle(pairs)
            self.judged(self.expected(old, new, pairs), *pairs, old=old, new=new)
            pairs.insert(0, (old.root, new.root))
            self.judged(self.expected(old, new, pairs), *pairs, old=old, new=new)

    def expected(self, old, new, pairs):
        if not pairs or pairs[0] != (old.root, new.root):
            return "root"
        for at, pair in enumerate(pairs):
            if first_refusal(old, new, pair) is not None:
                return "refused", at
            if any(inner not in pairs for _, inner in gone_into(old, new, pair)):
                return "open", at
        return "right"


class TestNot(unittest.TestCase):
    OLD = schema_of(("node", "k"), k=[(1, "a", ("row", 3, NUMBER)), (2, "on", ("maybe", ("node", "k")))])
    NEW = schema_of(("node", "k"), k=[(1, "b", ("row", 3, SMALL)), (2, "on", ("maybe", ("node", "k")))])

    def judged(self, verdict, path, why, thing):
        for paper in [("not", path, why, thing), ["not", path, why, thing]]:
            self.assertEqual(judge_meets(self.OLD, self.NEW, paper), verdict)

    def test_right(self):
        self.judged("right", *meets(self.OLD, self.NEW)[1:])
        self.judged("right", ("b", 0), "bounds", Node("k", {"a": (6,), "on": None}))
        # Another thing, and a later place of another thing.
        self.judged("right", ("b", 0), "bounds", Node("k", {"a": (-1, 2, 3), "on": None}))
        self.judged("right", ("b", 2), "bounds", Node("k", {"a": (1, 2, -3), "on": None}))
        self.judged("right", ("on", ("inside",), "b", 1), "bounds", Node("k", {"a": (), "on": Node("k", {"a": (1, 8, 9), "on": None})}))

    def test_thing(self):
        for thing in odd_objects() + plain_objects() + [
            Node("k"), Node("z", {"a": (6,), "on": None}), Node("k", {"a": [6], "on": None}), Node("k", {"a": (6, 6, 6, 6), "on": None}),
            Node("k", {"b": (6,), "on": None}), Node("k", {"a": (6,), "on": None, "z": 1}), Node("k", {"a": (6, True), "on": None}), Case("k"),
        ]:
            self.judged("thing", ("b", 0), "bounds", thing)
            self.judged("thing", ("z",), "most", thing)

    def test_turn(self):
        for path, why in [(("b", 0), "bounds"), ((), "sort"), (None, None)]:
            self.judged("turn", path, why, Node("k", {"a": (5, 0), "on": None}))

    def test_path(self):
        thing = Node("k", {"a": (1, 6), "on": None})
        self.judged("right", ("b", 1), "bounds", thing)
        for path in odd_objects() + plain_objects() + [("b", 0), ("a", 1), ("b",), ("b", 1, 0), ["b", 1], ("b", True), ("b", 1.0), ("b", "1"), [("b", 1)], (("b", 1),)]:
            self.judged("path", path, "bounds", thing)
            self.judged("path", path, "most", thing)
        for step in odd_objects() + plain_objects():
            self.judged("right" if type(step) is int and step == 1 else "path", ("b", step), "bounds", thing)
            self.judged("path", (step, 1), "bounds", thing)
        inner = Node("k", {"a": (), "on": thing})
        self.judged("right", ("on", ("inside",), "b", 1), "bounds", inner)
        for step in [*odd_objects(), *plain_objects(), "inside", ["inside"], ("case", "inside")]:
            self.judged("path", ("on", step, "b", 1), "bounds", inner)

    def test_why(self):
        thing = Node("k", {"a": (1, 6), "on": None})
        for why in odd_objects() + plain_objects() + ["most", "sort", "Bounds", "bounds ", ("bounds",), ["bounds"]]:
            self.judged("why", ("b", 1), why, thing)

    def test_by_chance(self):
        told = {}
        for seed in range(400):
            chance = random.Random(seed)
            old = chance_schema(chance)
            new = chance_edition(chance, old)
            thing = chance_thing(chance, chance.choice([old, old, new]))
            path, why = (), "sort"
            try:
                old.check(thing)
                verdict = "turn"
                turned(old, new, thing)
            except NoThing:
                verdict = "thing"
            except NoTurn as refused:
                verdict, path, why = "right", refused.path, refused.why
            self.assertEqual(judge_meets(old, new, ("not", path, why, thing)), verdict)
            told[verdict] = told.get(verdict, 0) + 1
            if verdict == "right":
                self.assertEqual(judge_meets(old, new, ("not", (*path, "z"), why, thing)), "path")
                self.assertEqual(judge_meets(old, new, ("not", path, why + "z", thing)), "why")
        self.assertEqual(sorted(told), ["right", "thing", "turn"])


class TestReader(unittest.TestCase):
    def judged(self, verdict, steps, old=OLD, new=NEW):
        for row in (tuple(steps), list(steps)):
            found = judge_reader(old, new, row)
            self.assertEqual(found, verdict)
            self.assertIs(type(found), type(verdict))

    def test_right(self):
        self.judged("right", made(OLD, NEW))
        self.assertEqual(judge_reader(steps=made(OLD, NEW), new=NEW, old=OLD), "right")
        # Also where some pairs are bad.
        self.judged("right", made(NEW, OLD), NEW, OLD)

    def test_steps_that_lack_or_are_too_many(self):
        steps = made(OLD, NEW)
        self.judged(0, ())
        for at in range(len(steps)):
            self.judged(at, steps[:at])
            self.judged(at, [*steps[:at], ("none", at), *steps[at:]])
            self.judged(at, [*steps[:at], *steps[at + 1:]])
        self.judged(len(steps), [*steps, steps[-1]])
        self.judged(len(steps), [*steps, ("bad",), ("bad",)])

    def test_steps_that_are_others(self):
        steps = made(OLD, NEW)
        for at, step in enumerate(steps):
            for other in [*odd_objects(), *plain_objects(), (*step, 1), step[:-1], ("bad",), (step,)]:
                self.judged(at, [*steps[:at], other, *steps[at + 1:]])
        self.judged(0, [("node", "k", *steps[0][2:]), *steps[1:]])
        self.judged(2, [*steps[:2], ("number", False, 9), *steps[3:]])
        self.judged(2, [*steps[:2], ("number", 0, 8), *steps[3:]])
        self.judged(1, [*steps[:1], ("row", 4, 3), *steps[2:]])

    def test_by_chance(self):
        for seed in range(200):
            chance = random.Random(seed)
            old = chance_schema(chance)
            new = chance_edition(chance, old)
            steps = list(made(old, new))
            self.judged("right", steps, old, new)
            at = chance.randrange(len(steps))
            spoilt = self.spoilt(chance, steps[at])
            steps[at] = spoilt
            self.judged(at, steps, old, new)

    def spoilt(self, chance, step):
        """A tuple with one thing in it, however deep, another one."""
        if step == () or chance.random() < 0.1:
            return (*step, None)
        at = chance.randrange(len(step))
        part = step[at]
        other = self.spoilt(chance, part) if isinstance(part, tuple) else "zz" if isinstance(part, str) else ("no",) if part is None else part + 1
        return (*step[:at], other, *step[at + 1:])


if __name__ == "__main__":
    unittest.main()
