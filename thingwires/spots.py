"""Places in what is asked a question: of a thing, or of tagged bytes, which are looked at as little as can be."""

from thingwires.entries import by_name, by_number
from thingwires.errors import NoBytes
from thingwires.tagged import NODE_FIRST, NODE_LATER, find_node


class ThingSpot:
    """A place in a thing."""

    def __init__(self, thing):
        self.thing = thing

    def is_nothing(self):
        """Whether a maybe is None."""
        return self.thing is None

    def inside(self):
        """The place inside of a maybe."""
        return self

    def how_many(self):
        """How many things a row has."""
        return len(self.thing)

    def item(self, at):
        """The place of a thing of a row."""
        return ThingSpot(self.thing[at])

    def case_among(self, cases):
        """Which of a row of cases it is; None where it is none."""
        return by_name(cases, self.thing.word)

    def case_inside(self):
        """The place of a case's content."""
        return ThingSpot(self.thing.content)

    def field(self, number, fields):
        """The place of the field of a number, which is one of a row of fields; None where there is none."""
        found = by_number(fields, number)
        return None if found is None else ThingSpot(self.thing.fields[found[1]])

    def meet_node(self):
        """Look whether there is a node."""

    def value(self, of):
        """The number, truth or text."""
        return self.thing


class TaggedSpot:
    """A place in tagged bytes; of bytes that are no writing some of it is told, or they are refused with NoBytes."""

    def __init__(self, view, at):
        self.view = view
        self.at = at

    def view_here(self):
        """The view, as it reads on from here."""
        self.view.go(self.at, len(self.view.data))
        return self.view

    def is_nothing(self):
        """Whether a maybe is None."""
        return not self.view_here().flag()

    def inside(self):
        """The place inside of a maybe."""
        return TaggedSpot(self.view, self.at + 1)

    def how_many(self):
        """How many things a row has."""
        return self.view_here().lone()

    def item(self, at):
        """The place of a thing of a row, behind the lengths of those ahead and its own."""
        self.how_many()
        for _ in range(at):
            self.view.span()
        return TaggedSpot(self.view, self.view.span()[0])

    def case_among(self, cases):
        """Which of a row of cases it is; None where it is none."""
        return by_number(cases, self.view_here().lone())

    def case_inside(self):
        """The place of a case's content."""
        view = self.view_here()
        view.lone()
        return TaggedSpot(view, view.at)

    def field(self, number, fields):
        """The place of the field of a number; None where it isn't among the bytes."""
        view = self.view_here()
        find_node(view)
        for _ in range(view.lone()):
            found = view.lone()
            start = view.span()[0]
            if found == number:
                return TaggedSpot(view, start)
        return None

    def meet_node(self):
        """Look whether there is a node."""
        if self.view_here().byte() not in (NODE_FIRST, NODE_LATER):
            raise NoBytes("thing")

    def value(self, of):
        """The number, truth or text; of tells which."""
        view = self.view_here()
        if of[0] == "number":
            return view.number()
        return view.flag() if of[0] == "truth" else view.measured_signs()
