"""The four wires, told again as plainly as can be, by functions that call themselves: [18] to [22]."""

from thingwires.things import Case, Node

CODES = {"text": 84, "tagged": 71, "packed": 80, "columns": 67}


def sevens(n):
    return [n] if n < 128 else [n % 128 + 128] + sevens(n // 128)


def signed(n):
    return sevens(2 * n if n >= 0 else -2 * n - 1)


def three(n):
    return list(n.to_bytes(3, "big"))


def bounded(n, low, high):
    """A number with two bounds, in as many bytes as the high one above the low one needs."""
    width = 0
    while 256 ** width <= high - low:
        width += 1
    return list((n - low).to_bytes(width, "big"))


class Plain:
    """Writes a thing of a schema by each wire."""

    def __init__(self, schema, thing, edition=0):
        self.schema, self.thing, self.edition = schema, thing, edition
        self.places = {}
        self.count(thing)
        self.order = list(self.places)
        self.shared = [node for node in self.order if self.places[node] > 1]

    def written(self, wire):
        body = {"text": self.text, "tagged": self.tagged, "packed": self.packed, "columns": self.columns}[wire]()
        return [CODES[wire], self.edition, *body]

    def fields(self, kind):
        return sorted(self.schema.kinds[kind], key=lambda field: field[0])

    def cases(self, of):
        return sorted(self.schema.choices[of[1]], key=lambda case: case[0])

    def case(self, of, word):
        return [case for case in self.cases(of) if case[1] == word][0]

    def count(self, thing):
        if isinstance(thing, Node):
            self.places[thing] = self.places.get(thing, 0) + 1
            if self.places[thing] == 1:
                for field in self.fields(thing.kind):
                    self.count(thing.fields[field[1]])
        elif isinstance(thing, tuple):
            for part in thing:
                self.count(part)
        elif isinstance(thing, Case):
            self.count(thing.content)

    def text(self):
        return list(self.shown(self.schema.root, self.thing, set()).encode("ascii"))

    def shown(self, of, thing, met):
        if of[0] == "number":
            return str(thing)
        if of[0] == "truth":
            return "yes" if thing else "no"
        if of[0] == "text":
            return '"' + "".join("\\" + sign if sign in '"\\' else sign for sign in thing) + '"'
        if of[0] == "row":
            return "[" + ",".join(self.shown(of[2], part, met) for part in thing) + "]"
        if of[0] == "maybe":
            return "-" if thing is None else "+" + self.shown(of[1], thing, met)
        if of[0] == "choice":
            inner = self.case(of, thing.word)[2]
            return thing.word if inner is None else f"{thing.word}({self.shown(inner, thing.content, met)})"
        mark = f"&{self.shared.index(thing)}" if thing in self.shared else ""
        if thing in met:
            return mark
        met.add(thing)
        inner = ",".join(f"{name}:{self.shown(of, thing.fields[name], met)}" for _, name, of, *_ in self.fields(thing.kind))
        return (mark + "=" if mark else "") + thing.kind + "{" + inner + "}"

    def tagged(self):
        return self.tag(self.schema.root, self.thing, 2, {})

    def tag(self, of, thing, at, places):
        """The bytes of a thing that begins at a place."""
        if of[0] == "number":
            return signed(thing)
        if of[0] == "truth":
            return [int(thing)]
        if of[0] == "text":
            return sevens(len(thing)) + list(thing.encode("ascii"))
        if of[0] == "maybe":
            return [0] if thing is None else [1] + self.tag(of[1], thing, at + 1, places)
        if of[0] == "choice":
            number, _, inner = self.case(of, thing.word)
            head = sevens(number)
            return head + ([] if inner is None else self.tag(inner, thing.content, at + len(head), places))
        if of[0] == "row":
            parts, out = [(b"", of[2], part) for part in thing], sevens(len(thing))
        elif thing in places:
            return [2] + three(places[thing])
        else:
            places[thing] = at
            fields = [field for field in self.fields(thing.kind) if field[3:] != (thing.fields[field[1]],)]
            parts, out = [(sevens(f[0]), f[2], thing.fields[f[1]]) for f in fields], [1] + sevens(len(fields))
        for head, inner, part in parts:
            out += head
            body = self.tag(inner, part, at + len(out) + 3, places)
            out += three(len(body)) + body
        return out

    def packed(self):
        return self.pack(self.schema.root, self.thing, [])

    def pack(self, of, thing, met):
        """The bytes of a thing behind the nodes that were met; None instead of a list where all nodes are known."""
        if of[0] == "number":
            return signed(thing) if None in of else bounded(thing, *of[1:])
        if of[0] == "truth":
            return [int(thing)]
        if of[0] == "text":
            return sevens(len(thing)) + list(thing.encode("ascii"))
        if of[0] == "maybe":
            return [0] if thing is None else [1] + self.pack(of[1], thing, met)
        if of[0] == "row":
            return sevens(len(thing)) + [byte for part in thing for byte in self.pack(of[2], part, met)]
        if of[0] == "choice":
            case = self.case(of, thing.word)
            head = [self.cases(of).index(case)]
            return head + ([] if case[2] is None else self.pack(case[2], thing.content, met))
        if met is None:
            return sevens(self.order.index(thing))
        if thing in met:
            return sevens(met.index(thing) + 1)
        met.append(thing)
        return [0] + [byte for _, name, of, *_ in self.fields(thing.kind) for byte in self.pack(of, thing.fields[name], met)]

    def columns(self):
        kinds = sorted(self.schema.kinds)
        out = sevens(len(self.order)) + [kinds.index(node.kind) for node in self.order]
        out += self.pack(self.schema.root, self.thing, None)
        for kind in kinds:
            nodes = [node for node in self.order if node.kind == kind]
            for _, name, of, *_ in self.fields(kind) if nodes else []:
                column = [byte for node in nodes for byte in self.pack(of, node.fields[name], None)]
                out += three(len(column)) + column
        return out


def plainly_written(schema, thing, wire, edition=0):
    return Plain(schema, thing, edition).written(wire)
