"""Things of one edition, turned to another."""

from thingwires.basics import keeps_bounds
from thingwires.building import Builder, path_along
from thingwires.entries import by_name, by_number, case_read, first_lack
from thingwires.errors import NoTurn
from thingwires.pairing import inner_pair, pair_word
from thingwires.things import Case, Node, field_names


def turned(old, new, thing):
    """Turn a thing of old's root to one of new's root."""
    turner = Turner(old, new)
    turner.do_next([("turn", (old.root, new.root), thing, None)])
    return turner.run()


class Turner(Builder):
    """Turns a thing of old to one of new; it keeps the nodes made, by old's node and new's kind."""

    def __init__(self, old, new):
        Builder.__init__(self)
        self.old = old
        self.new = new
        self.nodes = {}

    def begin(self, job):
        """Turn a thing of a pair of types, or begin to, where things stand in it."""
        _, pair, thing, way = job
        word = pair_word(pair)
        why = value_fault(pair, thing)
        if why is not None:
            raise NoTurn(path_along(way), why)
        if word == "row":
            parts = [("turn", inner_pair(pair), part, (way, at)) for at, part in enumerate(thing)]
            self.do_next([*parts, ("row", len(parts))])
        elif word == "choice":
            self.turn_case(pair, thing, way)
        elif word == "node":
            self.turn_node(pair, thing, way)
        elif word == "wrap":
            self.do_next([("turn", inner_pair(pair), thing, way)])
        elif word in ("maybe", "force") and thing is not None:
            self.do_next([("turn", inner_pair(pair), thing, (way, ("inside",)))])
        else:
            self.made.append(thing)

    def turn_case(self, pair, case, way):
        """Turn a case to the one with new's name for its number, else to new's case 0."""
        number, _, inner = by_name(self.old.choices[pair[0][1]], case.word)
        found = case_read(self.new.choices[pair[1][1]], number)
        if found is None:
            raise NoTurn(path_along(way), "case")
        _, name, new_inner = found
        if new_inner is None:
            self.made.append(Case(name))
        elif inner is None:
            raise NoTurn(path_along(way), "sort")
        else:
            self.do_next([("turn", (inner, new_inner), case.content, (way, ("case", name))), ("case", name)])

    def turn_node(self, pair, node, way):
        """Turn a node to one of new's kind; one that was begun for it already stands again."""
        kind = pair[1][1]
        if (node, kind) in self.nodes:
            self.made.append(self.nodes[(node, kind)])
            return
        fields = self.old.kinds[pair[0][1]]
        new_fields = self.new.kinds[kind]
        lack = first_lack(fields, new_fields)
        if lack is not None:
            raise NoTurn((*path_along(way), lack), "lacks")
        self.nodes[(node, kind)] = Node(kind)
        parts = []
        for field in new_fields:
            found = by_number(fields, field[0])
            if found is None:
                parts.append(("keep", field[3]))
            else:
                parts.append(("turn", (found[2], field[2]), node.fields[found[1]], (way, field[1])))
        self.do_next([*parts, ("fill", self.nodes[(node, kind)], field_names(self.new, kind))])


def value_fault(pair, thing):
    """Why a thing is refused for itself, but for what choices and nodes are; None where it isn't."""
    other = pair[1]
    word = pair_word(pair)
    if word == "bad":
        return "sort"
    if word == "number" and not keeps_bounds(thing, other[1], other[2]):
        return "bounds"
    if word in ("text", "row") and len(thing) > other[1]:
        return "most"
    return "nothing" if word == "force" and thing is None else None
