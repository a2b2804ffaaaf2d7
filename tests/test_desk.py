"""Desks: [35], and runnings: [36]."""

import random
import unittest

from chances import chance_edition, chance_question, chance_schema, chance_thing
from oddities import odd_objects, plain_objects
from plainwires import plainly_written

from thingwires.desk import Desk
from thingwires.errors import NoLine, NoTurn, NoThing, WireError
from thingwires.library import Library
from thingwires.meeting import meets
from thingwires.questions import asked
from thingwires.schemas import Schema
from thingwires.streams import streamed, unstreamed
from thingwires.turning import turned

WIRES = ["text", "tagged", "packed", "columns"]
TRUTH = ("truth",)
NUMBER = ("number", None, None)


def schema_of(root, choices=None, **kinds):
    return Schema(kinds, choices=choices, root=root)


OLD = schema_of(("node", "k"), choices={"c": [(0, "no", None), (1, "yes", TRUTH)]}, k=[
    (1, "n", NUMBER), (2, "s", ("text", 9), ""), (3, "row", ("row", 5, ("maybe", ("node", "k"))), ()), (4, "c", ("choice", "c")), (5, "t", TRUTH, False),
])
NEW = schema_of(("node", "k"), choices={"c": [(0, "none", None), (1, "yes", TRUTH)]}, k=[
    (1, "n", ("number", 0, 99)), (2, "s", ("text", 9), ""), (3, "row", ("row", 5, ("maybe", ("node", "k"))), ()), (4, "c", ("choice", "c")),
])
THING = 'k{n:5,s:"a \\"b\\"",row:[],c:yes(no),t:no}'
RING = '&0=k{n:50,s:"",row:[-,+&0],c:no,t:yes}'


class DeskCase(unittest.TestCase):
    def setUp(self):
        self.desk = Desk([OLD, NEW, schema_of(NUMBER), schema_of(("number", 0, 9)), schema_of(TRUTH)])

    def says(self, text, answer):
        found = self.desk.say(text)
        self.assertEqual(found, answer)
        self.assertIs(type(found), str)
        self.assertEqual(self.desk.depth, 0)

    def refused(self, text, why, at=(), call=None):
        with self.assertRaises(WireError) as caught:
            self.desk.say(text) if call is None else call(text)
        self.assertIs(type(caught.exception), NoLine)
        self.assertEqual((caught.exception.at, caught.exception.why), (at, why), text)
        self.assertEqual([type(part) for part in (caught.exception.at, *caught.exception.at)], [tuple, *[int] * len(at)])
        self.assertEqual(self.desk.depth, 0)


class TestPutAndRead(DeskCase):
    def test_put_and_read(self):
        for at, wire in enumerate(WIRES):
            self.says(f"put a 0 {wire}\n{THING}", f"part {at}")
            self.says(f"read a {at} 0", THING)
            self.says(f"read a {at} 1", 'k{n:5,s:"a \\"b\\"",row:[],c:yes(no)}')
            self.says(f"put b 0 {wire}\n{RING}", f"part {at}")
            self.says(f"read b {at} 0", RING)
            self.says(f"read b {at} 1", '&0=k{n:50,s:"",row:[-,+&0],c:none}')
        self.says("size a", "4")
        self.says("size b", "4")
        self.says("put numbers 2 text\n-5", "part 0")
        self.says("put numbers 3 packed\n5", "part 1")
        self.says("read numbers 0 2", "-5")
        self.says("read numbers 1 2", "5")

    def test_the_order_of_refusals_of_put(self):
        for text in ["put", "put a", "put a 0", "put a 0 text", "put a 0 text ", "put a 0 text x\n5", "put a 0\n5", "put a x text\n5", "put a 00 text\n5", "put a -1 text\n5",
                     "put a +1 text\n5", "put  a 2 text\n5", "put a 2  text\n5", "put a 2 text \n5", " put a 2 text\n5", "Put a 2 text\n5", "put a 2 text 5", "put A xx text\n5",
                     "put a 1_0 text\n5", "put a \u0661 text\n5", "put a \xb2 text\n5", "put a " + "1" * 61 + " text\n5"]:
            self.refused(text, "form")
        for name in ["A", "", "a1", "abcdefghi", "a.b", "\xe9"]:
            self.refused(f"put {name} 99 no\nno", "name")
        for edition in ["5", "99", "1" * 60]:
            self.refused(f"put a {edition} no\nno", "edition")
        for wire in ["no", "Text", "", "tag", "71"]:
            self.refused(f"put a 2 {wire}\nno", "wire")
        for thing in ["", "no", "05", "+5", "5\n", "\n5", " 5", "5 ", "10" * 31, "5\n6", "\u0665", "-0", "\x00"]:
            for wire in WIRES:
                self.refused(f"put a 2 {wire}\n{thing}", "text")
        self.refused("put a 3 text\n10", "text")
        self.refused("put a 0 text\n" + THING.replace("5", "05"), "text")
        self.refused("put a 0 text\n" + THING[:-1], "text")
        self.refused('put a 0 text\nk{n:5,s:"%",row:[],c:no,t:no}', "text")
        self.refused("size a", "name")
        self.assertEqual(self.desk.journal(), [])

    def test_a_thing_of_several_rows_is_none(self):
        self.refused('put a 0 text\nk{n:5,s:"a\nb",row:[],c:no,t:no}', "text")

    def test_read(self):
        self.says("put a 2 tagged\n50", "part 0")
        for text in ["read", "read a", "read a 0", "read a 0 0 0", "read a 0 2\n", "read a 0 2\n5", "read a 0 2 ", "read a  0 2", "read a -1 2", "read a 00 2", "read a 0 02",
                     "read a x 2", "read zz 0 x", "reads a 0 2", "", " ", "read a 0 " + "9" * 61]:
            self.refused(text, "form")
        for name in ["b", "A", "", "aa", "tagged"]:
            self.refused(f"read {name} 9 99", "name")
        for edition in ("5", "1" * 60):
            self.refused(f"read a 9 {edition}", "edition")
        for place in ("1", "9", "9" * 60):
            self.refused(f"read a {place} 3", "part")
        self.refused("read a 0 3", "turn")
        self.refused("read a 0 4", "turn")
        self.says("read a 0 2", "50")

    def test_size(self):
        self.says("put a 2 tagged\n50", "part 0")
        self.says("size a", "1")
        for text in ["size", "size a a", "size a ", "size a 0", "size a\n", "\nsize a"]:
            self.refused(text, "form")
        for name in ["b", "A", "", "%"]:
            self.refused(f"size {name}", "name")

    def test_what_is_no_text(self):
        for text in odd_objects() + plain_objects() + ["say", "stop", "\n", "put\n", "tears a 0 0", "PUT a 2 text\n5"]:
            self.refused(text, "form")

    def test_what_is_read_may_have_more_than_a_thing(self):
        """Turned to another kind nodes are more, and may be deeper than a thing may be."""
        many = 60
        kinds = ["ka", "kb", "kc", "kd", "ke"]
        old = schema_of(("node", "k"), k=[(1, "on", ("maybe", ("node", "k")))])
        new = schema_of(("node", "ka"), **{kind: [(1, "on", ("maybe", ("node", other)))] for kind, other in zip(kinds, kinds[1:] + kinds[:1])})
        desk = Desk([old, new])
        text = "k{on:+" * many + "&0" + "}" * many
        self.assertEqual(desk.say(f"put a 0 packed\n&0={text}"), "part 0")
        found = desk.say("read a 0 1")
        self.assertEqual(found.count("{"), 60)
        text = "k{on:+" * 61 + "&0" + "}" * 61
        self.assertEqual(desk.say(f"put a 0 tagged\n&0={text}"), "part 1")
        found = desk.say("read a 1 1")
        # Sixty-one nodes, each turned to all of five kinds.
        self.assertEqual(found.count("{"), 305)
        self.assertEqual(found, "&0=" + "".join(f"{kinds[at % 5]}{{on:+" for at in range(305)) + "&0" + "}" * 305)
        self.assertEqual(desk.say("ask a 1 1" + " .on ?" * 300), "node ka")
        with self.assertRaises(NoLine):
            desk.say(f"put a 1 text\n{found}")


class TestAsk(DeskCase):
    def setUp(self):
        DeskCase.setUp(self)
        self.desk.say(f"put a 0 tagged\n{THING}")
        self.desk.say(f"put a 0 columns\n{RING}")

    def test_answers(self):
        for steps, answer in [
            ("", "node k"), (" .n", "number 5"), (" .s", 'text "a \\"b\\""'), (" .row", "row 0"), (" .row #0", "none 1"), (" .row #7 ? .n", "none 1"), (" .c", "choice yes"),
            (" .c :yes", "truth no"), (" .t", "truth no"),
        ]:
            self.says(f"ask a 0 0{steps}", answer)
        for steps, answer in [
            (" .row", "row 2"), (" .row #0", "nothing"), (" .row #1", "maybe"), (" .row #0 ?", "none 2"), (" .row #1 ?", "node k"), (" .row #1 ? .row #1 ? .n", "number 50"),
            (" .c", "choice no"), (" .c :yes", "none 1"), (" .t", "truth yes"), (" .s", 'text ""'),
        ]:
            self.says(f"ask a 1 0{steps}", answer)
        self.says("ask a 1 1 .c", "choice none")
        self.desk.say("put b 2 packed\n-" + "9" * 60)
        self.says("ask b 0 2", "number -" + "9" * 60)

    def test_refusals(self):
        for text in ["ask", "ask a", "ask a 0", "ask a 0 0 ", "ask a 0 0  .n", "ask a 0 0 .n ", "ask a 0 0 n", "ask a 0 0 .", "ask a 0 0 :", "ask a 0 0 #", "ask a 0 0 ??", "ask a 0 0 .N",
                     "ask a 0 0 .row #01", "ask a 0 0 .row #-1", "ask a 0 0 .row #x", "ask a 0 0 .abcdefghi", "ask a 0 0 :a1", "ask a 0 0 ?a", "ask a 0 0 #" + "1" * 61, "ask a 0 0 .n\n",
                     "ask a x 0 .n", "ask a 0 00 .n", "ask zz 9 99 -n", "ask a 0 0 .n .", "ask a 0 0 ,n", 'ask a 0 0 "n"']:
            self.refused(text, "form")
        self.refused("ask zz 9 99 .z", "name")
        self.refused("ask A 0 0", "name")
        self.refused("ask a 9 99 .z", "edition")
        self.refused("ask a 9 0 .z", "part")
        for steps in [" .z", " ?", " #0", " :yes", " .n .n", " .row ?", " .row .n", " .c :no", " .c :z", " .row #" + "1" * 60 + " .n"]:
            self.refused(f"ask a 0 0{steps}", "step")
        self.refused("ask a 0 1 .t", "step")
        self.desk.say("put b 2 tagged\n50")
        self.refused("ask b 0 3", "turn")
        self.refused("ask b 0 3 ?", "step")


class TestTear(DeskCase):
    def put(self, *numbers):
        for number in numbers:
            self.desk.say(f"put a 2 tagged\n{number}")

    def test_tear(self):
        self.put(1, 2, 3)
        parts = [[71, 2, 2 * n] for n in (1, 2, 3)]
        whole = streamed(parts)
        size = len(whole) // 3
        self.says("tear a 0 0", "parts 3")
        self.says(f"tear a {3 * size} {3 * size}", "parts 3")
        self.says(f"tear a {size} {2 * size}", "parts 2")
        self.says("read a 1 2", "3")
        self.refused("read a 2 2", "part")
        # A stream of just these is torn next.
        self.says(f"tear a {2 * size} {2 * size}", "parts 2")
        self.refused(f"tear a 0 {2 * size + 1}", "form")
        self.says(f"tear a {size - 1} {size}", "parts 0")
        self.says("size a", "0")
        self.refused("tear a 0 1", "form")
        self.says("tear a 0 0", "parts 0")
        self.refused("read a 0 2", "part")
        self.put(7)
        self.says("read a 0 2", "7")
        self.says("size a", "1")

    def test_each_place(self):
        whole = streamed([[71, 2, 2], [71, 2, 4], [71, 2, 6]])
        for start in range(len(whole) + 1):
            for end in range(start, len(whole) + 1):
                self.setUp()
                self.put(1, 2, 3)
                left = [piece[2] for piece in unstreamed(whole[:start] + whole[end:]) if piece[0] == "part"]
                self.says(f"tear a {start} {end}", f"parts {len(left)}")
                for at, part in enumerate(left):
                    self.says(f"read a {at} 2", str(part[2] // 2))

    def test_refusals(self):
        self.put(1)
        size = len(streamed([[71, 2, 2]]))
        for text in ["tear", "tear a", "tear a 0", "tear a 0 0 0", "tear a 1 0", "tear a 0 x", "tear a 00 1", "tear a 0 -1", "tear a 0 0 ", "tear a 0 0\n", "tear a 0 " + "1" * 61,
                     "tear zz 1 0"]:
            self.refused(text, "form")
        for name in ["b", "A", ""]:
            self.refused(f"tear {name} 0 999", "name")
        self.refused(f"tear a 0 {size + 1}", "form")
        self.refused(f"tear a {size + 1} {size + 1}", "form")
        self.refused("tear a 0 " + "9" * 60, "form")
        self.says("size a", "1")

    def test_parts_that_are_no_writing(self):
        """A 0 at the end of a part may be lost without its check being another one."""
        self.desk.say("put a 4 tagged\nno")
        self.desk.say("put a 2 tagged\n5")
        self.assertEqual(streamed([[71, 4, 0]])[:5], [3, 71, 4, 1, 2])
        self.says("tear a 3 4", "parts 2")
        self.refused("read a 0 4", "bytes")
        self.refused("read a 0 3", "bytes")
        self.refused("read a 0 9", "edition")
        self.refused("ask a 0 4", "bytes")
        self.refused("ask a 0 4 ?", "bytes")
        self.refused("ask a 0 4 =", "form")
        self.says("read a 1 2", "5")


class TestMeets(DeskCase):
    def test_meets(self):
        self.assertEqual(len(meets(OLD, OLD)[1]), 7)
        self.says("meets 0 0", "always 7")
        self.says("meets 3 2", "always 1")
        self.says("meets 0 1", "not bounds")
        self.says("meets 2 3", "not bounds")
        self.says("meets 4 3", "not sort")
        for text in ["meets", "meets 0", "meets 0 0 0", "meets 0 0 ", "meets a 0", "meets 0 a", "meets 00 0", "meets 0 01", "meets -1 0", "meets 0 0\n", "meets 9 x", "meets  0 0"]:
            self.refused(text, "form")
        for text in ["meets 5 0", "meets 0 5", "meets 9 9", "meets 0 " + "9" * 60]:
            self.refused(text, "edition")


class TestRun(DeskCase):
    def test_run(self):
        texts = ["put a 2 tagged\n5", "size a", "read a 0 2"]
        self.assertEqual(self.desk.run(texts), ["part 0", "1", "5"])
        self.assertEqual(self.desk.run(tuple(texts[1:])), ["1", "5"])
        self.assertEqual(self.desk.run(texts=[]), [])
        self.assertIs(type(self.desk.run(())), list)
        self.assertEqual(self.desk.journal(), [("in", 0), ("out", 0, 3), ("in", 0), ("out", 0, 2), ("in", 0), ("out", 0, 0), ("in", 0), ("out", 0, 0)])
        self.assertIs(type(self.desk.journal()), list)

    def test_stored_rows(self):
        texts = ["put a 2 tagged\n5", "size a"]
        self.assertIsNone(self.desk.store("two", texts))
        texts.append("no")
        self.says("run two", "ran 2")
        self.says("run two", "ran 2")
        self.says("size a", "2")
        self.desk.store(texts=(), name="two")
        self.says("run two", "ran 0")
        self.assertEqual(self.desk.journal(), [("in", 0), ("out", 0, 2), ("in", 0), ("out", 0, 2), ("in", 0), ("out", 0, 0)])

    def test_names(self):
        for name in odd_objects() + plain_objects():
            if not isinstance(name, str) or name not in ("a", "number", "truth"):
                self.refused(name, "name", call=lambda name: self.desk.store(name, ["size a"]))
        self.desk.store("abcdefgh", [])
        for name in ["a", "A", "", "abcdefghi", "%", "?"]:
            self.refused(f"run {name}", "name")
        for text in ["run", "run a a", "run abcdefgh ", "run abcdefgh\n", "runs a"]:
            self.refused(text, "form")
        self.assertEqual(self.desk.journal(), [])

    def test_refused_within(self):
        self.desk.store("in", ["put a 2 tagged\n5", "size a", "size zz", "put a 2 tagged\n6"])
        self.desk.store("mid", ["size a", "run in", "put a 2 tagged\n7"])
        self.refused("run in", "name", (2,))
        self.refused("run mid", "name", (1, 2))
        self.refused(["put b 2 tagged\n5", "run in", "put b 2 tagged\n5"], "name", (1, 2), self.desk.run)
        self.refused(["run in"] * 3, "name", (0, 2), self.desk.run)
        self.refused(("size a", "size a", "run mid"), "name", (2, 1, 2), self.desk.run)
        # Those ahead stay done, those behind aren't begun.
        self.says("size a", "5")
        self.says("size b", "1")
        self.assertEqual(self.desk.journal(), [
            ("in", 0), ("out", 0, 2), ("in", 0), ("in", 1), ("out", 1, 2), ("out", 0, 1), ("in", 0), ("in", 1), ("out", 1, 2), ("out", 0, 1),
            ("in", 0), ("in", 1), ("out", 1, 2), ("out", 0, 0), ("in", 0), ("in", 1), ("in", 2), ("out", 2, 2), ("out", 1, 1), ("out", 0, 2),
        ])

    def test_whys_within(self):
        for text, why in [("no", "form"), ("size zz", "name"), ("meets 9 9", "edition"), ("put a 2 no\n5", "wire"), ("put a 2 text\n05", "text"), ("run zz", "name"),
                          ("tear a 0 999", "name")]:
            self.desk.store("x", ["meets 2 2", text])
            self.refused("run x", why, (1,))
            self.refused([text], why, (0,), self.desk.run)

    def test_deep(self):
        for at in range(12):
            self.desk.store("abcdefghijkl"[at], [f"put a 2 tagged\n{at}", "run " + "abcdefghijklm"[at + 1]])
        self.desk.store("m", [])
        # Eight may be on at once; what the ninth would be hasn't begun.
        self.says("run m", "ran 0")
        self.says("run l", "ran 2")
        self.says("run f", "ran 2")
        self.refused("run e", "deep", (1,) * 8)
        self.assertEqual(self.desk.journal()[-16:], [("in", n) for n in range(8)] + [("out", n, 1) for n in range(7, -1, -1)])
        self.refused("run a", "deep", (1,) * 8)
        self.refused(["meets 2 2", "run f"], "deep", (1, *(1,) * 7), self.desk.run)
        self.assertEqual(self.desk.run(["meets 2 2", "run g"]), ["always 1", "ran 2"])
        self.desk.store("me", ["run me"])
        self.refused("run me", "deep", (0,) * 8)
        self.desk.store("name", ["run name", "run zz"])
        self.refused("run name", "deep", (0,) * 8)
        # A name that isn't kept goes ahead of what is too deep.
        self.desk.store("lost", ["run aa"])
        self.desk.store("aa", ["run bb"])
        self.desk.store("bb", ["run cc"])
        self.desk.store("cc", ["run dd"])
        self.desk.store("dd", ["run ee"])
        self.desk.store("ee", ["run ff"])
        self.desk.store("ff", ["run gg"])
        self.desk.store("gg", ["run hh"])
        self.refused("run lost", "name", (0,) * 8)
        self.desk.store("gg", ["run HH"])
        self.refused("run lost", "name", (0,) * 8)
        self.desk.store("gg", ["run m m"])
        self.refused("run lost", "form", (0,) * 8)

    def test_what_is_told_is_the_askers_own(self):
        self.desk.run([])
        self.desk.journal().append("mine")
        self.assertEqual(self.desk.journal(), [("in", 0), ("out", 0, 0)])
        self.assertEqual({type(row) for row in self.desk.journal()}, {tuple})

    def test_depth(self):
        self.assertEqual(self.desk.depth, 0)
        self.assertEqual(Desk(editions=(OLD,)).depth, 0)


class TestByChance(DeskCase):
    def shown(self, schema, thing):
        return bytes(plainly_written(schema, thing, "text")[2:]).decode("ascii")

    def test_by_chance(self):
        for seed in range(200):
            chance = random.Random(seed)
            old = chance_schema(chance)
            new = chance_edition(chance, old)
            desk, library = Desk([old, new]), Library([old, new])
            thing = chance_thing(chance, old)
            wire = chance.choice(WIRES)
            self.assertEqual(desk.say(f"put x 0 {wire}\n{self.shown(old, thing)}"), "part 0")
            self.assertEqual(desk.say("read x 0 0"), self.shown(old, thing))
            try:
                whole = turned(old, new, thing)
            except NoTurn:
                with self.assertRaises(NoLine) as caught:
                    desk.say("read x 0 1")
                self.assertEqual((caught.exception.at, caught.exception.why), ((), "turn"))
                continue
            self.assertEqual(desk.say("read x 0 1"), self.shown(new, whole))
            question = chance_question(chance, new)
            words = [{"field": ".", "case": ":", "item": "#", "inside": "?"}[step[0]] + "".join(map(str, step[1:])) for step in question]
            answer = asked(new, whole, question)
            self.assertEqual(desk.say(" ".join(["ask x 0 1", *words])).split(" ")[0], answer[0])
            self.assertEqual(library.ask(library.write(thing, edition=0), question, edition=1)[0], answer)
            try:
                new.check(whole)
            except NoThing:
                continue
            self.assertEqual(desk.say(f"put x 1 {chance.choice(WIRES)}\n{self.shown(new, whole)}"), "part 1")


if __name__ == "__main__":
    unittest.main()
