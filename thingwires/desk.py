"""Desks: shelves by names, and rows of texts that say what to do with them."""

from thingwires.errors import NoBytes, NoEdition, NoLine, NoQuestion, NoTurn
from thingwires.heads import WIRES
from thingwires.library import Library
from thingwires.lines import read_line
from thingwires.quotes import show_value
from thingwires.schemas import is_name
from thingwires.signs import codes_of
from thingwires.streams import streamed, unstreamed
from thingwires.thingtexts import show_thing

MOST_RUNNINGS = 8


class Desk:
    """A library, shelves of parts by names, and rows of texts by names; depth is how many runnings are on."""

    def __init__(self, editions):
        self.library = Library(editions)
        self.shelves = {}
        self.rows = {}
        self.depth = 0
        self.runnings = []

    def say(self, text):
        """Do what a text says; tell the answer."""
        word, arguments, steps, rest = read_line(text)
        if word == "put":
            return self.put_part(*arguments, rest)
        if word == "read":
            return self.read_part(*arguments)
        if word == "ask":
            return self.ask_part(*arguments, steps)
        if word == "size":
            return str(len(self.parts_of(arguments[0])))
        if word == "tear":
            return self.tear_shelf(*arguments)
        if word == "meets":
            return self.show_meets(*arguments)
        return self.run_kept(arguments[0])

    def store(self, name, texts):
        """Keep a row of texts by a name."""
        if not is_name(name):
            raise NoLine((), "name")
        self.rows[name] = tuple(texts)

    def run(self, texts):
        """Say texts one by one; tell the answers."""
        others = self.depth
        if others >= MOST_RUNNINGS:
            raise NoLine((), "deep")
        answers = []
        done = 0
        self.depth += 1
        self.runnings.append(("in", others))
        try:
            for at, text in enumerate(texts):
                answers.append(self.say_at(at, text))
                done += 1
        finally:
            self.depth -= 1
            self.runnings.append(("out", others, done))
        return answers

    def journal(self):
        """List the runnings that began and ended."""
        return list(self.runnings)

    def say_at(self, at, text):
        """Say a text at its place in a row."""
        try:
            return self.say(text)
        except NoLine as refused:
            raise NoLine((at, *refused.at), refused.why) from None

    def run_kept(self, name):
        """Run the row that is kept by a name."""
        if name not in self.rows:
            raise NoLine((), "name")
        answers = self.run(self.rows[name])
        return f"ran {len(answers)}"

    def put_part(self, name, edition, wire, text):
        """Write the thing that a text shows, and put the bytes to a shelf."""
        if not is_name(name):
            raise NoLine((), "name")
        self.refuse_edition(edition)
        if wire not in WIRES:
            raise NoLine((), "wire")
        try:
            thing = self.library.read([WIRES["text"], edition, *codes_of(text)], edition=edition)
        except NoBytes:
            raise NoLine((), "text") from None
        part = self.library.write(thing, edition=edition, wire=wire)
        parts = self.shelves.setdefault(name, [])
        parts.append(part)
        return f"part {len(parts) - 1}"

    def read_part(self, name, place, edition):
        """Read a part of a shelf by an edition; show the thing."""
        part = self.part_for(name, place, edition)
        try:
            thing = self.library.read(part, edition=edition)
        except NoTurn:
            raise NoLine((), "turn") from None
        return show_thing(self.library.editions[edition], thing)

    def ask_part(self, name, place, edition, question):
        """Answer a question of a part of a shelf by an edition."""
        part = self.part_for(name, place, edition)
        try:
            answer, _ = self.library.ask(part, question, edition=edition)
        except NoQuestion:
            raise NoLine((), "step") from None
        except NoTurn:
            raise NoLine((), "turn") from None
        # The names of cases and kinds are no texts of a thing, so they have no quotes.
        values = answer[1:] if answer[0] in ("choice", "node") else [show_value(value) for value in answer[1:]]
        return " ".join([answer[0], *values])

    def tear_shelf(self, name, start, end):
        """Take bytes out of a shelf's stream; what is whole then are its parts."""
        stream = streamed(self.parts_of(name))
        if end > len(stream):
            raise NoLine((), "form")
        pieces = unstreamed([*stream[:start], *stream[end:]])
        self.shelves[name] = [piece[2] for piece in pieces if piece[0] == "part"]
        return f"parts {len(self.shelves[name])}"

    def show_meets(self, old, new):
        """Show whether each thing of an edition is read by another: how many pairs, or why not."""
        self.refuse_edition(old)
        self.refuse_edition(new)
        found = self.library.meets(old, new)
        return f"always {len(found[1])}" if found[0] == "always" else f"not {found[2]}"

    def parts_of(self, name):
        """The parts of a shelf."""
        if name not in self.shelves:
            raise NoLine((), "name")
        return self.shelves[name]

    def part_for(self, name, place, edition):
        """A part of a shelf that an edition is to read; it is the writing of a thing."""
        parts = self.parts_of(name)
        self.refuse_edition(edition)
        if place >= len(parts):
            raise NoLine((), "part")
        try:
            self.library.whole(parts[place])
        except NoBytes:
            raise NoLine((), "bytes") from None
        return parts[place]

    def refuse_edition(self, edition):
        """Refuse a number that is no edition's."""
        try:
            self.library.schema_of(edition)
        except NoEdition:
            raise NoLine((), "edition") from None
