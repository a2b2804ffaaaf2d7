"""Things: nodes and cases, and how things are told, compared, copied and made plain.

Things may be hundreds of steps deep and go round in rings, so they are gone through with
a list of what is ahead, not by functions that call themselves.
"""

from thingwires.basics import alike, nearest


class Node:
    """A thing of a kind; it is equal to itself alone."""

    def __init__(self, kind, fields=()):
        self.kind = kind
        self.fields = dict(fields)

    def put(self, name, thing):
        """Put a thing to a field's name."""
        self.fields[name] = thing


class Case:
    """One case of a choice; two that are alike are equal."""

    def __init__(self, word, content=None):
        self.word = word
        self.content = content

    def __eq__(self, other):
        return isinstance(other, Case) and self.word == other.word and self.content == other.content


def told(schema, thing):
    """Tell a thing as a tuple of its top and its nodes, in the order in which these are met."""
    nodes = nodes_met(schema, thing)
    marks = {node: ("node", at) for at, node in enumerate(nodes)}
    rows = []
    for node in nodes:
        names = field_names(schema, node.kind)
        fields = [(name, _remade(node.fields[name], marks, _told_case)) for name in names]
        rows.append((node.kind, tuple(fields)))
    return _remade(thing, marks, _told_case), tuple(rows)


def same(schema, one, other):
    """Whether two things of a schema are told alike."""
    return alike(told(schema, one), told(schema, other))


def copied(schema, thing):
    """Copy a thing to one that is the same and has no node in common with it."""
    nodes = nodes_met(schema, thing)
    copies = {node: Node(node.kind) for node in nodes}
    for node in nodes:
        for name in field_names(schema, node.kind):
            copies[node].put(name, _remade(node.fields[name], copies, _new_case))
    return _remade(thing, copies, _new_case)


def plain(schema, of):
    """Make the plain thing of a type, with one node of each kind."""
    return plain_among(schema, of, {})


def plain_among(schema, of, nodes):
    """Make the plain thing of a type; nodes are those made already, by their kinds."""
    word = of[0]
    if word == "number":
        return nearest(of[1], of[2])
    if word == "choice":
        _, name, inner = schema.choices[of[1]][0]
        return Case(name, None if inner is None else plain_among(schema, inner, nodes))
    if word == "node":
        return _plain_node(schema, of[1], nodes)
    if word == "truth":
        return False
    if word == "text":
        return ""
    return () if word == "row" else None


def field_names(schema, kind):
    """The names of a kind's fields, by rising numbers."""
    return [field[1] for field in schema.kinds[kind]]


def nodes_met(schema, thing):
    """List the nodes of a thing in the order in which they are met."""
    return list(node_places(schema, thing))


def node_places(schema, thing):
    """Count the places of each node of a thing: a dict in the order in which they are met."""
    places = {}
    ahead = [thing]
    while ahead:
        part = ahead.pop()
        if not isinstance(part, Node):
            ahead.extend(_parts(part)[::-1])
        elif part in places:
            places[part] += 1
        else:
            places[part] = 1
            names = field_names(schema, part.kind)
            ahead.extend([part.fields[name] for name in names[::-1]])
    return places


def _parts(thing):
    """List what stands straight in a tuple or a case."""
    if isinstance(thing, tuple):
        return list(thing)
    if isinstance(thing, Case):
        return [thing.content]
    return []


def _down_to_nodes(thing):
    """List a thing and all in it, in order, without what is in its nodes."""
    met = []
    ahead = [thing]
    while ahead:
        part = ahead.pop()
        met.append(part)
        ahead.extend(_parts(part)[::-1])
    return met


def _remade(thing, stands, make_case):
    """Make a thing again, with what stands for each node in its place, and its cases made anew.

    It is made from its end on, so that all that stands in a tuple or a case is made ahead of it.
    """
    made = []
    for part in _down_to_nodes(thing)[::-1]:
        if isinstance(part, Node):
            made.append(stands[part])
        elif isinstance(part, tuple):
            made.append(tuple([made.pop() for _ in part]))
        elif isinstance(part, Case):
            made.append(make_case(part.word, made.pop()))
        else:
            made.append(part)
    return made.pop()


def _told_case(word, content):
    return "case", word, content


def _new_case(word, content):
    return Case(word, content)


def _plain_node(schema, kind, nodes):
    """The one plain node of a kind, kept ahead of its fields since these may lead back to it."""
    if kind not in nodes:
        node = Node(kind)
        nodes[kind] = node
        for field in schema.kinds[kind]:
            node.put(field[1], plain_among(schema, field[2], nodes))
    return nodes[kind]
