"""Readers that are made ahead for two editions, and run on tagged bytes."""

from thingwires.basics import is_bytes, keeps_bounds
from thingwires.building import Builder, path_along
from thingwires.entries import by_number
from thingwires.errors import NoBytes, NoTurn
from thingwires.heads import HEAD, wire_of
from thingwires.pairing import inner_pair, pair_word, pairs_met
from thingwires.tagged import find_node
from thingwires.things import Case, Node
from thingwires.views import View


def made(old, new):
    """Make the reader by which new reads what old wrote tagged: a step for each pair of types."""
    pairs = list(pairs_met(old, new))
    places = {pair: at for at, pair in enumerate(pairs)}
    return tuple([_step(old, new, pair, places) for pair in pairs])


def run_reader(steps, data):
    """Read tagged bytes of old to a thing of new."""
    if not is_bytes(data) or wire_of(data) != "tagged":
        raise NoBytes("wire")
    reader = StepReader(steps, View(data))
    reader.do_next([("read", 0, (HEAD, len(data)), None)])
    return reader.run()


def _step(old, new, pair, places):
    """The step of a pair; places are those of all pairs."""
    one, other = pair
    word = pair_word(pair)
    if word in ("number", "text"):
        return other
    if word == "row":
        return "row", other[1], places[inner_pair(pair)] if one[1] > 0 and other[1] > 0 else -1
    if word in ("maybe", "force", "wrap"):
        return word, places[inner_pair(pair)]
    if word == "choice":
        return _choice_step(old.choices[one[1]], new.choices[other[1]], places)
    if word == "node":
        return _node_step(old.kinds[one[1]], new.kinds[other[1]], other[1], places)
    return (word,)


def _choice_step(cases, new_cases, places):
    likes = []
    for number, _, inner in cases:
        like = by_number(new_cases, number)
        if like is not None:
            likes.append((number, like[1], _content_place(inner, like[2], places)))
    first = by_number(new_cases, 0)
    return "choice", tuple(likes), None if first is None else first[1]


def _content_place(inner, new_inner, places):
    """Which step reads the content of a case: None where new has none, -1 where new alone has one."""
    if new_inner is None:
        return None
    return -1 if inner is None else places[(inner, new_inner)]


def _node_step(fields, new_fields, kind, places):
    likes = []
    defaults = []
    lacks = []
    for number, name, of, *left in new_fields:
        like = by_number(fields, number)
        if like is not None:
            likes.append((number, name, places[(like[2], of)], like[3:]))
        elif len(left) > 0:
            defaults.append((name, left[0]))
        else:
            lacks.append(name)
    return "node", kind, tuple(likes), tuple(defaults), tuple(lacks)


class StepReader(Builder):
    """Reads things of new by steps; it keeps the nodes made, by the place of old's and new's kind.

    A job is "read", the place of a step, the bytes of a thing from where up to where, and a way; or "left",
    the place of a step, a default of old that isn't among the bytes, and a way.
    """

    def __init__(self, steps, view):
        Builder.__init__(self)
        self.steps = steps
        self.view = view
        self.nodes = {}

    def begin(self, job):
        """Read a thing, or begin to, where things stand in it."""
        word, place, of, way = job
        step = self.steps[place]
        if word == "left":
            self.turn_left(step, of, way)
        elif step[0] == "wrap":
            self.do_next([("read", step[1], of, way)])
        else:
            self.view.go(of[0], of[1])
            self.read(step, way)

    def read(self, step, way):
        """Read what stands here."""
        word = step[0]
        if word == "number":
            number = self.view.number()
            _refuse_bounds(step, number, way)
            self.made.append(number)
        elif word == "truth":
            self.made.append(self.view.flag())
        elif word == "text":
            many = self.view.lone()
            _refuse_most(step, many, way)
            self.made.append(self.view.signs(many))
        elif word == "row":
            self.read_row(step, way)
        elif word in ("maybe", "force"):
            self.read_maybe(step, way)
        elif word == "choice":
            self.read_case(step, way)
        elif word == "node":
            self.read_node(step, way)
        else:
            raise NoTurn(path_along(way), "sort")

    def read_row(self, step, way):
        """Read how many things a row has, and begin to read these."""
        many = self.view.lone()
        _refuse_most(step, many, way)
        if many > 0 and step[2] == -1:
            raise NoBytes("thing")
        spans = [self.view.span() for _ in range(many)]
        parts = [("read", step[2], span, (way, at)) for at, span in enumerate(spans)]
        self.do_next([*parts, ("row", many)])

    def read_maybe(self, step, way):
        """Read whether there is something, and begin to read it."""
        if self.view.flag():
            self.do_next([("read", step[1], self.view.span_ahead(), (way, ("inside",)))])
        elif step[0] == "force":
            raise NoTurn(path_along(way), "nothing")
        else:
            self.made.append(None)

    def read_case(self, step, way):
        """Read a case's number, and begin to read its content."""
        _, cases, other = step
        case = by_number(cases, self.view.lone())
        if case is None and other is None:
            raise NoTurn(path_along(way), "case")
        if case is None or case[2] is None:
            self.made.append(Case(other if case is None else case[1]))
        elif case[2] == -1:
            raise NoTurn(path_along(way), "sort")
        else:
            self.do_next([("read", case[2], self.view.span_ahead(), (way, ("case", case[1]))), ("case", case[1])])

    def read_node(self, step, way):
        """Begin to read a node, or take one that was begun already for the same kind."""
        _, kind, fields, defaults, lacks = step
        place = find_node(self.view)
        if (place, kind) in self.nodes:
            self.made.append(self.nodes[(place, kind)])
            return
        if len(lacks) > 0:
            raise NoTurn((*path_along(way), lacks[0]), "lacks")
        node = Node(kind, defaults)
        self.nodes[(place, kind)] = node
        spans = self.view.spans_of_fields()
        parts = []
        for number, name, inner, left in fields:
            if number in spans:
                parts.append(("read", inner, spans[number], (way, name)))
            elif len(left) > 0:
                parts.append(("left", inner, left[0], (way, name)))
            else:
                raise NoBytes("thing")
        self.do_next([*parts, ("fill", node, [field[1] for field in fields])])

    def turn_left(self, step, thing, way):
        """Turn a default of old."""
        word = step[0]
        if word == "wrap":
            self.do_next([("left", step[1], thing, way)])
            return
        if word in ("bad", "force"):
            raise NoTurn(path_along(way), "sort" if word == "bad" else "nothing")
        if word == "number":
            _refuse_bounds(step, thing, way)
        if word == "text":
            _refuse_most(step, len(thing), way)
        self.made.append(thing)


def _refuse_bounds(step, number, way):
    if not keeps_bounds(number, step[1], step[2]):
        raise NoTurn(path_along(way), "bounds")


def _refuse_most(step, many, way):
    if many > step[1]:
        raise NoTurn(path_along(way), "most")
