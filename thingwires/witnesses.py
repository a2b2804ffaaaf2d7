"""Things that are refused at a pair of types, made to show that they can be."""

from thingwires.entries import by_name, by_number
from thingwires.pairing import inner_pair, pair_word
from thingwires.reasons import refused_case, refused_number
from thingwires.things import Case, Node, plain_among


def refused_thing(old, new, pair, way):
    """Make a thing of old's root that is refused at a pair, at the end of the way there."""
    maker = Maker(old, new)
    thing = maker.refused(pair)
    for around, steps in way[::-1]:
        thing = maker.around(around, steps, thing)
    maker.fill()
    return thing


class Maker:
    """Makes things of old with one node for each pair of kinds, and one of each kind where new reads nothing.

    Nodes are filled behind all else, so none that stands on the way is made twice.
    """

    def __init__(self, old, new):
        self.old = old
        self.new = new
        self.nodes = {}
        self.unfilled = []
        self.unread = {}

    def refused(self, pair):
        """Make the thing that is refused at a pair itself."""
        one, other = pair
        word = pair_word(pair)
        if word == "number":
            return refused_number(pair)
        if word == "text":
            return "x" * (other[1] + 1)
        if word == "row":
            return (self.plain(inner_pair(pair)),) * (other[1] + 1)
        if word == "choice":
            _, name, inner = refused_case(self.old, self.new, pair)
            return Case(name, self.plain_unread(inner))
        return self.plain(pair)

    def around(self, pair, steps, thing):
        """Make what stands around a thing that new's steps lead to from a pair."""
        one, other = pair
        word = pair_word(pair)
        if word == "row":
            return (thing,)
        if word == "choice":
            return Case(_old_name(self.old.choices[one[1]], self.new.choices[other[1]], steps[0][1]), thing)
        if word == "node":
            node = self.node(pair)
            node.put(_old_name(self.old.kinds[one[1]], self.new.kinds[other[1]], steps[0]), thing)
            return node
        return thing

    def fill(self):
        """Put plain things to all fields of the nodes that have none yet."""
        while self.unfilled:
            kind, new_kind = self.unfilled.pop()
            node = self.nodes[(kind, new_kind)]
            for field in self.old.kinds[kind]:
                if field[1] not in node.fields:
                    node.put(field[1], self.plain_within(field, self.new.kinds[new_kind]))

    def plain(self, pair):
        """Make the plain thing of old's type of a pair."""
        one, other = pair
        word = pair_word(pair)
        if word == "wrap":
            return self.plain(inner_pair(pair))
        if word == "choice":
            case = self.old.choices[one[1]][0]
            return Case(case[1], self.plain_within(case, self.new.choices[other[1]]))
        return self.node(pair) if word == "node" else self.plain_unread(one)

    def plain_within(self, entry, new_row):
        """Make the plain thing of a field or case of old, which new reads by one of a row of its own."""
        like = by_number(new_row, entry[0])
        if entry[2] is None or like is None or like[2] is None:
            return self.plain_unread(entry[2])
        return self.plain((entry[2], like[2]))

    def plain_unread(self, of):
        """Make the plain thing of a type that new doesn't read; None where there is no type."""
        return None if of is None else plain_among(self.old, of, self.unread)

    def node(self, pair):
        """The one node of a pair of kinds."""
        kinds = (pair[0][1], pair[1][1])
        if kinds not in self.nodes:
            self.nodes[kinds] = Node(kinds[0])
            self.unfilled.append(kinds)
        return self.nodes[kinds]


def _old_name(row, new_row, name):
    """The name in old of the field or case that has a name in new."""
    return by_number(row, by_name(new_row, name)[0])[1]
