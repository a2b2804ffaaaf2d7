"""Things of one edition, turned to another."""

from thingwires.basics import keeps_bounds
from thingwires.entries import by_name, by_number, case_read, first_lack
from thingwires.errors import NoTurn
from thingwires.pairing import inner_pair, pair_word
from thingwires.things import Case, Node, field_names


def turned(old, new, thing):
    """Turn a thing of old's root to one of new's root."""
    return Turner(old, new).run(thing)


class Turner:
    """Turns a thing, with a list of what is still to do, since things may be hundreds of steps deep.

    What stands in a row, a case or a node is made ahead of it and waits in a list until it is taken.
    A way is None at the top, else a pair of the way to what stands around and the step from there.
    """

    def __init__(self, old, new):
        self.old = old
        self.new = new
        self.nodes = {}
        self.jobs = []
        self.made = []

    def run(self, thing):
        """Turn a thing of the roots' pair."""
        self.turn_later((self.old.root, self.new.root), thing, None)
        while self.jobs:
            job = self.jobs.pop()
            word = job[0]
            if word == "turn":
                self.turn(job[1], job[2], job[3])
            elif word == "keep":
                self.made.append(job[1])
            elif word == "row":
                self.made.append(tuple(self.taken(job[1])))
            elif word == "case":
                self.made.append(Case(job[1], self.made.pop()))
            else:
                self.fill(job[1])
        return self.made.pop()

    def turn_later(self, pair, thing, way):
        """Put the turning of a thing ahead of all else that is still to do."""
        self.jobs.append(("turn", pair, thing, way))

    def turn(self, pair, thing, way):
        """Turn a thing, or begin to, where things stand in it."""
        word = pair_word(pair)
        why = _fault(pair, thing)
        if why is not None:
            raise NoTurn(_path(way), why)
        if word == "row":
            self.jobs.append(("row", len(thing)))
            for at, part in list(enumerate(thing))[::-1]:
                self.turn_later(inner_pair(pair), part, (way, at))
        elif word == "choice":
            self.turn_case(pair, thing, way)
        elif word == "node":
            self.turn_node(pair, thing, way)
        elif word == "wrap":
            self.turn_later(inner_pair(pair), thing, way)
        elif word in ("maybe", "force") and thing is not None:
            self.turn_later(inner_pair(pair), thing, (way, ("inside",)))
        else:
            self.made.append(thing)

    def turn_case(self, pair, case, way):
        """Turn a case to the one with new's name for its number, else to new's case 0."""
        number, _, inner = by_name(self.old.choices[pair[0][1]], case.word)
        found = case_read(self.new.choices[pair[1][1]], number)
        if found is None:
            raise NoTurn(_path(way), "case")
        _, name, new_inner = found
        if new_inner is None:
            self.made.append(Case(name))
        elif inner is None:
            raise NoTurn(_path(way), "sort")
        else:
            self.jobs.append(("case", name))
            self.turn_later((inner, new_inner), case.content, (way, ("case", name)))

    def turn_node(self, pair, node, way):
        """Turn a node to one of new's kind; one that was begun for it already stands again."""
        kind = pair[1][1]
        if (node, kind) in self.nodes:
            self.made.append(self.nodes[(node, kind)])
            return
        fields = self.old.kinds[pair[0][1]]
        new_fields = self.new.kinds[kind]
        lack = first_lack(fields, new_fields)
        if lack is not None:
            raise NoTurn(_path((way, lack)), "lacks")
        self.nodes[(node, kind)] = Node(kind)
        self.jobs.append(("fill", self.nodes[(node, kind)]))
        for field in new_fields[::-1]:
            found = by_number(fields, field[0])
            if found is None:
                self.jobs.append(("keep", field[3]))
            else:
                self.turn_later((found[2], field[2]), node.fields[found[1]], (way, field[1]))

    def fill(self, node):
        """Put the things made for its fields to a node."""
        names = field_names(self.new, node.kind)
        things = self.taken(len(names))
        for name, thing in zip(names, things):
            node.put(name, thing)
        self.made.append(node)

    def taken(self, many):
        """Take the last things that were made, in their order."""
        start = len(self.made) - many
        things = self.made[start:]
        del self.made[start:]
        return things


def _fault(pair, thing):
    """Why a thing is refused for itself, but for what choices and nodes are; None where it isn't."""
    other = pair[1]
    word = pair_word(pair)
    if word == "bad":
        return "sort"
    if word == "number" and not keeps_bounds(thing, other[1], other[2]):
        return "bounds"
    if word in ("text", "row") and len(thing) > other[1]:
        return "most"
    return "nothing" if word == "force" and thing is None else None


def _path(way):
    """The path of a way."""
    steps = []
    while way is not None:
        way, step = way
        steps.append(step)
    return tuple(steps[::-1])
