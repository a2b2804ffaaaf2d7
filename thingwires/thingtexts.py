"""Things as texts."""

from thingwires.basics import FIGURES
from thingwires.building import Builder
from thingwires.entries import by_name
from thingwires.errors import NoBytes
from thingwires.quotes import show_value, unquoted
from thingwires.schemas import LETTERS
from thingwires.things import Node, field_names, node_places

# A `-` and sixty figures; longer words are refused ahead of being worked out.
LONGEST_NUMBER = 61


def show_thing(schema, thing):
    """Show a thing of the root's type, however deep it is, as a text."""
    places = node_places(schema, thing)
    writer = TextWriter(schema, [node for node in places if places[node] > 1])
    return writer.run(thing)


def read_shown(schema, text):
    """Read the thing that a text shows; of one that shows none some object, or it is refused with NoBytes."""
    reader = TextReader(schema, text)
    reader.do_next([("read", schema.root)])
    return reader.run()


class TextWriter:
    """Shows things, with a list of what is still to do; what is to be shown first stands last.

    A job is a type and a thing of it, or None and a piece of the text. Shared nodes stand at several places.
    """

    def __init__(self, schema, shared):
        self.schema = schema
        self.marks = {node: f"&{at}" for at, node in enumerate(shared)}
        self.begun = {}
        self.jobs = []

    def run(self, thing):
        """Show a thing of the root's type."""
        pieces = []
        self.jobs.append((self.schema.root, thing))
        while self.jobs:
            of, part = self.jobs.pop()
            if of is None:
                pieces.append(part)
            else:
                self.jobs.extend(self.parts(of, part)[::-1])
        return "".join(pieces)

    def parts(self, of, thing):
        """List the jobs that show a thing, in their order."""
        word = of[0]
        if word == "row":
            rows = [[(None, ","), (of[2], part)] for part in thing]
            return _enclosed("[", rows, "]")
        if word == "maybe":
            return [(None, "-")] if thing is None else [(None, "+"), (of[1], thing)]
        if word == "choice":
            inner = by_name(self.schema.choices[of[1]], thing.word)[2]
            name = (None, thing.word)
            return [name] if inner is None else [name, (None, "("), (inner, thing.content), (None, ")")]
        if word == "node":
            return self.node_parts(thing)
        return [(None, show_value(thing))]

    def node_parts(self, node):
        """List the jobs that show a node, or its mark where it was met already."""
        if node in self.begun:
            return [(None, self.marks[node])]
        self.begun[node] = True
        head = f"{self.marks[node]}=" if node in self.marks else ""
        rows = []
        for _, name, of, *_ in self.schema.kinds[node.kind]:
            rows.append([(None, ","), (None, f"{name}:"), (of, node.fields[name])])
        return [(None, head), *_enclosed(node.kind + "{", rows, "}")]


class TextReader(Builder):
    """Reads a thing from its text; it keeps the nodes that stand at several places by their figures."""

    def __init__(self, schema, text):
        Builder.__init__(self)
        self.schema = schema
        self.text = text
        self.at = 0
        self.nodes = {}

    def begin(self, job):
        """Read a thing or a piece that is expected, or what stands behind a thing of a row."""
        word = job[0]
        if word == "expect":
            self.expect(job[1])
        elif word == "behind":
            self.read_behind(job[1], job[2])
        else:
            self.read(job[1])

    def read(self, of):
        """Read a thing of a type, or begin to, where things stand in it."""
        word = of[0]
        if word == "number":
            self.made.append(self.read_number())
        elif word == "truth":
            self.made.append(self.read_truth())
        elif word == "text":
            self.made.append(self.read_quotes())
        elif word == "row":
            self.expect("[")
            self.do_next([("keep", ())] if self.passes("]") else [("read", of[2]), ("behind", of[2], 1)])
        elif word == "maybe":
            self.do_next([("keep", None)] if self.passes("-") else [("expect", "+"), ("read", of[1])])
        elif word == "choice":
            self.read_case(self.schema.choices[of[1]])
        else:
            self.read_node(of[1])

    def read_behind(self, of, many):
        """Read what stands behind so many things of a row: one more, or its end."""
        if self.passes(","):
            self.do_next([("read", of), ("behind", of, many + 1)])
        else:
            self.do_next([("expect", "]"), ("row", many)])

    def read_case(self, cases):
        """Read a case's name, and begin to read its content."""
        name = self.word_of(LETTERS)
        case = by_name(cases, name)
        if case is None:
            raise NoBytes("thing")
        inside = [("keep", None)] if case[2] is None else [("expect", "("), ("read", case[2]), ("expect", ")")]
        self.do_next([*inside, ("case", name)])

    def read_node(self, kind):
        """Begin to read a node, or take one that was met already."""
        node = Node(kind)
        if self.passes("&"):
            mark = self.word_of(FIGURES)
            if self.passes("="):
                self.nodes[mark] = node
            elif mark in self.nodes:
                self.made.append(self.nodes[mark])
                return
            else:
                raise NoBytes("thing")
        jobs = [("expect", kind + "{")]
        for at, field in enumerate(self.schema.kinds[kind]):
            lead = "," if at > 0 else ""
            jobs.extend([("expect", f"{lead}{field[1]}:"), ("read", field[2])])
        self.do_next([*jobs, ("expect", "}"), ("fill", node, field_names(self.schema, kind))])

    def read_number(self):
        """Read a number."""
        word = self.word_of("-" + FIGURES)
        if len(word) > LONGEST_NUMBER:
            raise NoBytes("thing")
        try:
            number = int(word)
        except ValueError:
            raise NoBytes("thing") from None
        return number

    def read_truth(self):
        """Read a truth."""
        truth = {"yes": True, "no": False}.get(self.word_of(LETTERS))
        if truth is None:
            raise NoBytes("thing")
        return truth

    def read_quotes(self):
        """Read a text between two quotes."""
        start = self.at
        self.expect('"')
        while not self.passes('"'):
            if self.at >= len(self.text):
                raise NoBytes("thing")
            # The sign behind a backslash is passed with it, be it a quote or not.
            self.passes("\\")
            self.at += 1
        return unquoted(self.text[start:self.at])

    def word_of(self, signs):
        """Pass all that stands here of some signs."""
        start = self.at
        while self.at < len(self.text) and self.text[self.at] in signs:
            self.at += 1
        return self.text[start:self.at]

    def passes(self, piece):
        """Pass a piece of the text, if it stands here; tell whether it does."""
        is_here = self.text.startswith(piece, self.at)
        if is_here:
            self.at += len(piece)
        return is_here

    def expect(self, piece):
        """Pass a piece of the text that has to stand here."""
        if not self.passes(piece):
            raise NoBytes("thing")


def _enclosed(start, rows, end):
    """List the jobs of rows between a start and an end; the comma ahead of the first is left out."""
    jobs = [job for row in rows for job in row]
    return [(None, start), *jobs[1:], (None, end)]
