"""Schemas, editions of them and things, made by chance, for tests that hold the program against simpler rules."""

from thingwires.errors import NoSchema
from thingwires.schemas import Schema
from thingwires.things import Case, Node

KINDS = ["ka", "kb", "kc"]
CHOICES = ["ca", "cb"]
FAR = 10 ** 60 - 1


def chance_bounds(chance):
    low, high = sorted(chance.choices([-3, -1, 0, 1, 2, 5], k=2))
    return chance.choice([(low, high), (low, high), (None, high), (low, None), (None, None), (-FAR, FAR)])


def chance_type(chance, depth=0):
    word = chance.choice(["number", "truth", "text", "row", "maybe", "node", "node", "choice", "choice"])
    if word in ("row", "maybe") and depth == 3:
        word = "truth"
    if word == "number":
        return ("number", *chance_bounds(chance))
    if word == "truth":
        return ("truth",)
    if word == "text":
        return ("text", chance.choice([0, 1, 3]))
    if word == "row":
        return ("row", chance.choice([0, 1, 2, 3]), chance_type(chance, depth + 1))
    if word == "maybe":
        inner = chance_type(chance, depth + 1)
        return inner if inner[0] == "maybe" else ("maybe", inner)
    return (word, chance.choice(KINDS if word == "node" else CHOICES))


def chance_default(chance, of):
    """A default of a type as a row of one, or an empty row."""
    if of[0] == "number":
        low, high = of[1:]
        return (low if low is not None else high if high is not None else 7,)
    defaults = {"truth": (True,), "text": ("x" * of[1],) if of[0] == "text" else (), "row": ((),), "maybe": (None,)}
    return defaults.get(of[0], ())


def chance_row(chance, numbers, names, most, is_choice):
    many = chance.randrange(1 if is_choice else 0, most + 1)
    rows = []
    for number, name in zip(chance.sample(numbers, many), chance.sample(names, many)):
        of = chance_type(chance)
        if is_choice:
            rows.append((number, name, None if number == 0 or chance.random() < 0.4 else of))
        else:
            rows.append((number, name, of, *(chance_default(chance, of) if chance.random() < 0.5 else ())))
    return rows


def valid(make):
    """The first schema that is none refused of those that are made by chance."""
    while True:
        try:
            return make()
        except NoSchema:
            pass


def chance_schema(chance):
    return valid(lambda: Schema(
        {kind: chance_row(chance, range(1, 6), "pqrst", 4, False) for kind in KINDS},
        choices={name: chance_row(chance, range(0, 5), "vwxyz", 4, True) for name in CHOICES},
        root=chance.choice([("node", "ka"), ("node", "kb"), ("node", "kc"), ("choice", "ca"), chance_type(chance)]),
    ))


def changed_type(chance, of):
    """A type a little different from another one, mostly in ways that read it."""
    way = chance.random()
    if way < 0.55:
        return of
    if way < 0.6:
        return chance_type(chance)
    if of[0] == "maybe":
        return of[1] if way < 0.65 else ("maybe", changed_type(chance, of[1])) if of[1][0] != "maybe" else of
    if way < 0.7:
        return ("maybe", of)
    if of[0] == "row":
        inner = changed_type(chance, of[2])
        return ("row", chance.choice([of[1], of[1] + 1, max(0, of[1] - 1)]), inner)
    if of[0] == "text":
        return ("text", chance.choice([of[1], of[1] + 1, max(0, of[1] - 1)]))
    if of[0] == "number":
        return ("number", *chance.choice([(None, None), (None, of[2]), (of[1], None), chance_bounds(chance)]))
    if of[0] == "node":
        return ("node", chance.choice([of[1], *KINDS]))
    if of[0] == "choice":
        return ("choice", chance.choice([of[1], *CHOICES]))
    return of


def changed_row(chance, row, is_choice, names):
    changed = []
    for entry in row:
        if chance.random() < 0.92:
            of = None if entry[2] is None else changed_type(chance, entry[2])
            if is_choice:
                changed.append((entry[0], entry[1], None if chance.random() < 0.05 else of))
            else:
                more = chance_default(chance, of) if chance.random() < 0.7 else ()
                changed.append((entry[0], entry[1], of, *more))
    for number in range(0 if is_choice else 1, 6):
        free = [name for name in names if name not in [entry[1] for entry in changed]]
        if number not in [entry[0] for entry in changed] and free and chance.random() < 0.15:
            of = None if is_choice and (number == 0 or chance.random() < 0.5) else chance_type(chance)
            if not is_choice and chance.random() < 0.9:
                of = chance.choice([("truth",), ("maybe", ("node", "ka")), ("row", 2, ("node", "kb")), ("text", 2)])
            default = () if is_choice or chance.random() < 0.05 else chance_default(chance, of)
            changed.append((number, chance.choice(free), of, *default))
    return changed


def chance_edition(chance, schema):
    """A schema that is another edition of one."""
    return valid(lambda: Schema(
        {kind: changed_row(chance, row, False, "pqrstabc") for kind, row in schema.kinds.items()},
        choices={name: changed_row(chance, row, True, "vwxyzdef") for name, row in schema.choices.items()},
        root=schema.root if chance.random() < 0.8 else changed_type(chance, schema.root),
    ))


class Things:
    """Makes a thing by chance, of some nodes of each kind that stand anywhere in it."""

    def __init__(self, chance, schema, nodes=3):
        self.chance = chance
        self.schema = schema
        self.nodes = {kind: [Node(kind) for _ in range(nodes)] for kind in schema.kinds}
        for row in self.nodes.values():
            for node in row:
                for field in schema.kinds[node.kind]:
                    node.put(field[1], self.thing(field[2]))

    def thing(self, of, depth=0):
        chance = self.chance
        if of[0] == "number":
            low, high = of[1:]
            near = [n for n in (-FAR, -9, -3, -2, -1, 0, 1, 2, 3, 5, 9, FAR, low, high) if n is not None]
            return chance.choice([n for n in near if (low is None or n >= low) and (high is None or n <= high)])
        if of[0] == "truth":
            return chance.random() < 0.5
        if of[0] == "text":
            return "".join(chance.choices('ab"\\ ', k=chance.randrange(of[1] + 1)))
        if of[0] == "row":
            return tuple(self.thing(of[2], depth + 1) for _ in range(0 if depth > 3 else chance.randrange(of[1] + 1)))
        if of[0] == "maybe":
            return None if depth > 3 or chance.random() < 0.4 else self.thing(of[1], depth + 1)
        if of[0] == "node":
            return chance.choice(self.nodes[of[1]])
        cases = self.schema.choices[of[1]]
        # First cases alone never lead back, so they are taken where it is deep.
        _, name, inner = cases[0] if depth > 3 else chance.choice(cases)
        return Case(name, None if inner is None else self.thing(inner, depth + 1))

    def root(self):
        return self.thing(self.schema.root)


def chance_thing(chance, schema, nodes=3):
    return Things(chance, schema, nodes).root()


def chance_question(chance, schema, most=8):
    """A question that goes with a schema's types."""
    of, steps = schema.root, []
    while len(steps) < most and chance.random() < 0.9:
        if of[0] == "row":
            step, of = ("item", chance.choice([0, 0, 0, 1, 2, 5])), of[2]
        elif of[0] == "maybe":
            step, of = ("inside",), of[1]
        elif of[0] in ("node", "choice"):
            row = schema.kinds[of[1]] if of[0] == "node" else [case for case in schema.choices[of[1]] if case[2] is not None]
            if not row:
                break
            entry = chance.choice(row)
            step, of = ("field" if of[0] == "node" else "case", entry[1]), entry[2]
        else:
            break
        steps.append(step)
    return steps
