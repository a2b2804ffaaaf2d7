"""Schemas as texts: [6], and of [19] how a text between two quotes is written."""

import random
import unittest

from oddities import odd_objects

from thingwires.errors import NoText
from thingwires.schemas import Schema
from thingwires.schematexts import read_schema, show_schema

WHOLE = Schema(
    {
        "zoo": [
            (12, "l", ("row", 20, ("maybe", ("row", 0, ("number", None, 5)))), ()),
            (1, "a", ("number", -3, None), -2),
            (2, "b", ("number", None, None), 0),
            (3, "c", ("number", 0, 10 ** 59)),
            (4, "d", ("truth",), True),
            (5, "e", ("truth",), False),
            (6, "f", ("text", 40), 'a "b" \\ = c'),
            (10, "j", ("maybe", ("node", "ant")), None),
        ],
        "ant": [],
        "bee": ((99, "x", ("choice", "zoo")), (7, "y", ("text", 0), "")),
    },
    choices={
        "zoo": [(10, "ten", ("choice", "any")), (9, "nine", None), (0, "none", None)],
        "any": [(3, "some", ("row", 3, ("text", 1)))],
    },
    root=("maybe", ("node", "zoo")),
)

WHOLE_TEXT = """kind ant
kind bee
7 y text 0 = ""
99 x choice zoo
kind zoo
1 a number -3..* = -2
2 b number *..* = 0
3 c number 0..1""" + "0" * 59 + """
4 d truth = yes
5 e truth = no
6 f text 40 = "a \\"b\\" \\\\ = c"
10 j maybe node ant = -
12 l row 20 maybe row 0 number *..5 = []
choice any
3 some row 3 text 1
choice zoo
0 none
9 nine
10 ten choice any
root maybe node zoo"""


def default_schema(of, *default):
    return Schema({"k": [(1, "a", of, *default)]}, root=("truth",))


def default_text(words):
    return f"kind k\n1 a {words}\nroot truth"


class TextCase(unittest.TestCase):
    def refused(self, text):
        with self.assertRaises(NoText) as caught:
            read_schema(text)
        self.assertIs(type(caught.exception), NoText)
        self.assertIs(caught.exception.text, text)

    def agree(self, schema, text):
        self.assertEqual(show_schema(schema), text)
        read = read_schema(text)
        self.assertIs(type(read), Schema)
        self.assertEqual((read.kinds, read.choices, read.root), (schema.kinds, schema.choices, schema.root))
        self.assertEqual(show_schema(read), text)


class TestShown(TextCase):
    def test_whole(self):
        self.agree(WHOLE, WHOLE_TEXT)

    def test_least(self):
        self.agree(Schema({}, root=("truth",)), "root truth")
        self.agree(Schema({"k": []}, root=("node", "k")), "kind k\nroot node k")

    def test_arguments_by_their_names(self):
        self.assertEqual(show_schema(schema=read_schema(text="root truth")), "root truth")

    def test_types(self):
        for of, shown in [
            (("number", None, None), "number *..*"), (("number", -5, -3), "number -5..-3"),
            (("number", None, 0), "number *..0"), (("number", 7, None), "number 7..*"), (("truth",), "truth"),
            (("text", 0), "text 0"), (("text", 40), "text 40"), (("row", 20, ("truth",)), "row 20 truth"),
            (("maybe", ("truth",)), "maybe truth"), (("maybe", ("row", 1, ("text", 2))), "maybe row 1 text 2"),
            (("row", 1, ("row", 2, ("maybe", ("number", 1, 2)))), "row 1 row 2 maybe number 1..2"),
        ]:
            self.agree(Schema({}, root=of), f"root {shown}")

    def test_defaults(self):
        for of, default, shown in [
            (("number", None, None), -12, "number *..* = -12"), (("number", 0, 5), 0, "number 0..5 = 0"),
            (("truth",), True, "truth = yes"), (("truth",), False, "truth = no"), (("text", 9), "", 'text 9 = ""'),
            (("text", 9), '"', 'text 9 = "\\""'), (("text", 9), "\\", 'text 9 = "\\\\"'),
            (("text", 9), '\\"', 'text 9 = "\\\\\\""'), (("text", 9), " = ", 'text 9 = " = "'),
            (("text", 9), " a  b ", 'text 9 = " a  b "'), (("text", 9), "\\\\", 'text 9 = "\\\\\\\\"'),
            (("row", 3, ("truth",)), (), "row 3 truth = []"), (("maybe", ("truth",)), None, "maybe truth = -"),
            (("number", None, None), 10 ** 60 - 1, f"number *..* = {'9' * 60}"),
        ]:
            self.agree(default_schema(of, default), default_text(shown))

    def test_every_sign(self):
        for code in range(32, 127):
            if code != 37:
                sign = chr(code)
                behind = f"\\{sign}" if sign in '"\\' else sign
                self.agree(default_schema(("text", 3), f"a{sign}b"), default_text(f'text 3 = "a{behind}b"'))

    def test_the_order_of_names_is_that_of_their_letters(self):
        schema = Schema({"b": [], "ab": [], "aa": [], "a": []}, root=("truth",))
        self.agree(schema, "kind a\nkind aa\nkind ab\nkind b\nroot truth")

    def test_names_that_are_words(self):
        kinds = {"kind": [(1, "root", ("node", "root"))], "root": [(2, "choice", ("choice", "maybe"))]}
        schema = Schema(kinds, choices={"maybe": [(1, "truth", ("truth",)), (2, "row", None)]}, root=("node", "kind"))
        self.agree(schema, "kind kind\n1 root node root\nkind root\n2 choice choice maybe\n"
                           "choice maybe\n1 truth truth\n2 row\nroot node kind")

    def test_the_schema_stays(self):
        kinds = dict(WHOLE.kinds)
        show_schema(WHOLE)
        self.assertEqual(WHOLE.kinds, kinds)


class TestRefused(TextCase):
    def test_what_is_no_text(self):
        for thing in odd_objects() + [None, True, 0, 1, (), ("root truth",), b"root truth", ["root truth"]]:
            self.refused(thing)

    def test_no_schema(self):
        for text in [
            "", "\n", " ", "root", "root ", "truth", "kind k", "choice c\n1 a", "Root truth", "root Truth", "root root",
            "root node k", "root choice c", "root number", "root number 1", "root number 5..1", "root number 1...5",
            "root number ..", "root number 1..", "root number ..1", "root number 1..2..3", "root number 1 2",
            "root number *", "root text", "root text *", "root text -1", "root text 41", "root row truth", "root row 3",
            "root row 21 truth", "root row -1 truth", "root row * truth", "root maybe", "root maybe maybe truth",
            "root maybe 3 truth", "root truth truth", "root truth 1", "root node", "root choice", "root node k k",
            "root truth = yes", "root row", "root row row", "1 a truth\nroot truth", "1 a\nroot truth", "kind\nroot truth",
            "kind K\nroot truth", "kind k k\nroot truth", "kind abcdefghi\nroot truth", "choice c\nroot truth",
            "kind k\nkind k\nroot truth", "choice c\n1 a\nchoice c\n1 a\nroot truth", "root truth\nroot truth",
            "root truth\nkind k", "choice c\n1 a choice c\nroot truth", "kind k\n1 a\nroot truth", "kind k\n1\nroot truth",
            "choice c\n1\nroot truth", "choice c\n0 a truth\nroot truth", "choice c\n1 a truth = yes\nroot truth",
            "choice c\n1 a = -\nroot truth", "choice c\n1 a none\nroot truth", "kind k\na truth\nroot truth",
        ]:
            self.refused(text)

    def test_fields(self):
        for row in [
            "0 a truth", "100 a truth", "-1 a truth", "1 A truth", "1 truth", "1 a truth yes", "1 a truth =", "1 a truth = ",
            "1 a truth =yes", "1 a truth= yes", "1 a truth = True", "1 a truth = 1", "1 a truth = Yes", "1 a truth = yes ",
            "1 a truth = yes = yes", "1 a number 0..5 = 6", "1 a number 0..5 = -", "1 a number 0..5 = x", "1 a text 3 = a",
            '1 a text 3 = "', '1 a text 3 = "abcd"', "1 a text 3 = 'a'", '1 a text 3 = "a', '1 a text 3 = a"',
            "1 a row 3 truth = ()", "1 a row 3 truth = [yes]", "1 a row 3 truth = [ ]", "1 a maybe truth = None",
            "1 a maybe truth = yes", "1 a maybe truth = +yes", "1 a node k = -", "1 a node k = k{}", "1 a choice c = a",
            "1 a text 3 = -", "1 a number 0..5 = *", "1 a", "1 a = yes", "1", "", "a 1 truth", "1 a node x", "1 a truth = [] ",
        ]:
            self.refused(f"kind k\n{row}\nchoice c\n1 a\nroot truth")

    def test_texts_are_written_one_way(self):
        for word in ['"a"b"', '"\\a"', '"a\\"', '"\\"', '"""', '"\\\\\\"', '"a" ', ' "a"', '"a%b"', '"a\tb"', '"é"',
                     '"\\n"', '"a\rb"', '"\x00"', '"\x7f"']:
            self.refused(default_text(f"text 9 = {word}"))

    def test_noughts_ahead_and_other_figures(self):
        for text in [
            "root text 03", "root text 00", "root text +3", "root text 3_0", "root text \u0663", "root text \u00b2",
            "root row 03 truth", "root number 00..5", "root number -0..5", "root number 01..5", "root number 0..05",
            "root number +1..5", "root number 0..5_0", "root number 0..\u0665", "root number 0..0x5", "root number 0..5.0",
            "root number --5..5", "root number -..5", "root number 0..5e1", "kind k\n01 a truth\nroot truth",
            "kind k\n+1 a truth\nroot truth", "choice c\n00 a\nroot truth", "choice c\n-0 a\nroot truth",
            "root text -0", "root text \uff13",
        ]:
            self.refused(text)
        for word in ["00", "-0", "+1", "01", "1_0", "\u0661", "1.0", "1e1", "-01", "- 1"]:
            self.refused(default_text(f"number *..* = {word}"))

    def test_far_too_many_figures(self):
        for many in (5000, 100000):
            figures = "1" + "0" * many
            for text in [
                f"root number 0..{figures}", f"root number -{figures}..0", f"root text {figures}", f"root row {figures} truth",
                f"kind k\n{figures} a truth\nroot truth", f"choice c\n{figures} a\nroot truth",
                default_text(f"number *..* = {figures}"), default_text(f"number *..* = -{figures}"),
            ]:
                self.refused(text)
        self.refused(default_text(f"number *..* = 1{'0' * 60}"))

    def test_blanks_and_line_feeds(self):
        # In a text between quotes a blank more or less makes another text, rightly written.
        quote = WHOLE_TEXT.index('"a')
        behind = WHOLE_TEXT.index("\n", quote)
        for at, sign in enumerate(WHOLE_TEXT):
            if sign in " \n" and not quote < at < behind:
                self.refused(WHOLE_TEXT[:at] + WHOLE_TEXT[at + 1:])
                self.refused(WHOLE_TEXT[:at] + sign + WHOLE_TEXT[at:])
                self.refused(WHOLE_TEXT[:at] + "\t" + WHOLE_TEXT[at + 1:])
        for text in ["root truth\n", "\nroot truth", " root truth", "root truth ", "root  truth", "kind k\n\nroot truth",
                     "kind  k\nroot truth", "kind k \nroot truth", "kind k\r\nroot truth", "root truth\r", "root\ttruth",
                     "kind k\x0broot truth", "kind k\x0croot truth", "kind k\u2028root truth", "kind k\x85root truth"]:
            self.refused(text)

    def test_rows_in_another_order(self):
        rows = WHOLE_TEXT.split("\n")
        swapped = 0
        for at in range(len(rows) - 1):
            # A head and a row change places rightly where the row may go to the kind ahead.
            if rows[at][0].isdigit() == rows[at + 1][0].isdigit():
                self.refused("\n".join(rows[:at] + [rows[at + 1], rows[at]] + rows[at + 2:]))
                swapped += 1
        self.assertGreater(swapped, 8)
        self.refused("kind b\nkind a\nroot truth")
        self.refused("choice b\n1 a\nchoice a\n1 a\nroot truth")
        self.refused("choice c\n1 a\nkind k\nroot truth")
        self.refused("kind k\n2 b truth\n1 a truth\nroot truth")
        self.refused("root truth\nkind k")

    def test_rows_left_out_or_twice(self):
        rows = WHOLE_TEXT.split("\n")
        for at in range(len(rows)):
            self.refused("\n".join(rows[:at] + [rows[at], rows[at]] + rows[at + 1:]))
        self.refused("\n".join(rows[:-1]))
        self.refused("\n".join(rows[1:-1]))

    def test_whatever_is_changed_is_read_just_where_it_is_shown(self):
        chance = random.Random(6)
        read = 0
        for _ in range(4000):
            at = chance.randrange(len(WHOLE_TEXT))
            signs = chance.choice(["", "0", "1", "9", " ", "\n", "a", "k", '"', "\\", "-", "*", ".", "=", "é", "[", "%"])
            text = WHOLE_TEXT[:at] + signs + WHOLE_TEXT[at + chance.randrange(3):]
            try:
                schema = read_schema(text)
            except NoText as error:
                self.assertEqual(error.text, text)
                continue
            read += 1
            self.assertEqual(show_schema(schema), text)
        self.assertGreater(read, 50)


if __name__ == "__main__":
    unittest.main()
