"""Questions that one edition asks of what another one wrote; no more is turned than what a question passes."""

from thingwires.entries import by_name, by_number, case_read, first_lack
from thingwires.errors import NoBytes, NoTurn
from thingwires.pairing import inner_pair, pair_word
from thingwires.spots import ThingSpot
from thingwires.turning import value_fault

INSIDE = ("inside",)


def answered(old, new, question, spot):
    """Answer a question of new, which goes with its types, of a thing of old at a spot."""
    asker = Asker(old, new, spot)
    for at, step in enumerate(question):
        asker.meet()
        if not asker.go(step):
            return "none", at
    asker.meet()
    return asker.answer()


class Asker:
    """Goes down a thing of old by steps of new.

    It keeps the pair of types and the spot where it is, and the path there.
    """

    def __init__(self, old, new, spot):
        self.old = old
        self.new = new
        self.pair = (old.root, new.root)
        self.spot = spot
        self.path = ()

    def enter(self, pair, spot, steps):
        """Go to another spot of another pair, by steps of the path."""
        self.pair = pair
        self.spot = spot
        self.path = (*self.path, *steps)

    def meet(self):
        """Refuse what new can't read of what is here for itself; of a maybe that new has not, go inside."""
        if pair_word(self.pair) == "force":
            if self.spot.is_nothing():
                raise NoTurn(self.path, "nothing")
            self.enter(inner_pair(self.pair), self.spot.inside(), (INSIDE,))
        word = pair_word(self.pair)
        if word == "bad":
            raise NoTurn(self.path, "sort")
        if word == "row" and self.spot.how_many() > self.pair[1][1]:
            raise NoTurn(self.path, "most")
        if word == "choice":
            self.case_met()
        if word == "node":
            self.meet_node()

    def case_met(self):
        """The case that is here and the one as which new reads it."""
        one, other = self.pair
        case = self.spot.case_among(self.old.choices[one[1]])
        if case is None:
            raise NoBytes("thing")
        found = case_read(self.new.choices[other[1]], case[0])
        if found is None:
            raise NoTurn(self.path, "case")
        if case[2] is None and found[2] is not None:
            raise NoTurn(self.path, "sort")
        return case, found

    def meet_node(self):
        """Refuse a node for a field that lacks."""
        one, other = self.pair
        lack = first_lack(self.old.kinds[one[1]], self.new.kinds[other[1]])
        if lack is not None:
            raise NoTurn((*self.path, lack), "lacks")
        self.spot.meet_node()

    def go(self, step):
        """Go a step on from what was met; tell whether that can be done."""
        word = step[0]
        if word == "field":
            self.go_to_field(step[1])
            return True
        if word == "case":
            return self.go_to_content(step)
        if word == "item":
            if self.spot.how_many() <= step[1]:
                return False
            self.enter(inner_pair(self.pair), self.spot.item(step[1]), (step[1],))
            return True
        if pair_word(self.pair) == "wrap":
            self.enter(inner_pair(self.pair), self.spot, ())
            return True
        if self.spot.is_nothing():
            return False
        self.enter(inner_pair(self.pair), self.spot.inside(), (INSIDE,))
        return True

    def go_to_content(self, step):
        """Go to the content of a case, if it is the one of the step."""
        case, found = self.case_met()
        if found[1] != step[1]:
            return False
        self.enter((case[2], found[2]), self.spot.case_inside(), (step,))
        return True

    def go_to_field(self, name):
        """Go to the field of a name; where there is none, to old's default, or else to new's."""
        one, other = self.pair
        fields = self.old.kinds[one[1]]
        field = by_name(self.new.kinds[other[1]], name)
        like = by_number(fields, field[0])
        spot = self.spot.field(field[0], fields)
        if like is None:
            # What new alone has is new's already, and so is all that is in it.
            self.old = self.new
            self.enter((field[2], field[2]), ThingSpot(field[3]), (name,))
            return
        if spot is None:
            if len(like) == 3:
                raise NoBytes("thing")
            spot = ThingSpot(like[3])
        self.enter((like[2], field[2]), spot, (name,))

    def answer(self):
        """Tell what was met here."""
        other = self.pair[1]
        word = pair_word(self.pair)
        if word == "wrap":
            return ("maybe",)
        if word == "maybe":
            return ("nothing",) if self.spot.is_nothing() else ("maybe",)
        if word == "row":
            return "row", self.spot.how_many()
        if word == "choice":
            return "choice", self.case_met()[1][1]
        if word == "node":
            return "node", other[1]
        value = self.spot.value(other)
        why = value_fault(self.pair, value)
        if why is not None:
            raise NoTurn(self.path, why)
        return word, value
