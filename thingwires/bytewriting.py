"""What is alike in how things are written tagged, packed and in columns."""

from thingwires.numerals import lone_bytes, text_bytes, wide_bytes
from thingwires.views import THREE


class ByteWriter:
    """Writes things, with a list of what is still to do; what is to be written first stands last.

    A job is a word, what it is done with, and a thing: "thing" and its type, to write it; "measured" and
    its type, to write it behind its length; "length" and a place, to put there the length of all that was
    written behind it; "lone" and a number, to write it by sevens.
    """

    def __init__(self, schema, head):
        self.schema = schema
        self.written = list(head)
        self.jobs = []

    def run(self, of, thing):
        """Write a thing of a type, with all that is in it."""
        self.write_next([("thing", of, thing)])
        while self.jobs:
            word, of, thing = self.jobs.pop()
            if word == "thing":
                self.write(of, thing)
            elif word == "measured":
                self.write_next([("thing", of, thing), ("length", self.hold_length(), None)])
            elif word == "length":
                self.put_length(of)
            else:
                self.written.extend(lone_bytes(of))

    def write_next(self, jobs):
        """Put jobs, which are told in their order, ahead of all else that is still to be done."""
        self.jobs.extend(jobs[::-1])

    def hold_length(self):
        """Keep a place free for a length, and tell it."""
        self.written.extend([0] * THREE)
        return len(self.written) - THREE

    def put_length(self, at):
        """Put the length of all that was written behind a place that was kept free."""
        start = at + THREE
        self.written[at:start] = wide_bytes(len(self.written) - start, THREE)

    def write(self, of, thing):
        """Write a thing, or begin to, where things stand in it."""
        word = of[0]
        if word == "number":
            self.write_number(of, thing)
        elif word == "truth":
            self.written.append(1 if thing else 0)
        elif word == "text":
            self.written.extend(text_bytes(thing))
        elif word == "row":
            self.written.extend(lone_bytes(len(thing)))
            self.write_row(of[2], thing)
        elif word == "maybe":
            self.written.append(0 if thing is None else 1)
            self.write_next([] if thing is None else [("thing", of[1], thing)])
        elif word == "choice":
            self.write_case(self.schema.choices[of[1]], thing)
        else:
            self.write_node(self.schema.kinds[of[1]], thing)

    def write_number(self, of, number):
        """Write a number of a type."""
        raise NotImplementedError("number")

    def write_row(self, of, row):
        """Write the things of a row, which are of a type."""
        raise NotImplementedError("row")

    def write_case(self, cases, case):
        """Write a case of a row of cases."""
        raise NotImplementedError("case")

    def write_node(self, fields, node):
        """Write a node of these fields."""
        raise NotImplementedError("node")
