"""Questions of tagged bytes, told again plainly: which bytes may be looked at, by [29], and what is answered."""

from plainwires import Plain, sevens, signed, three

from thingwires.errors import NoTurn


class Tree:
    """A thing as it stands in tagged bytes: where its own bytes are, and where the things in it."""

    def __init__(self, at, thing):
        self.at, self.thing = at, thing
        self.first, self.head, self.whole = [at], [], []
        self.parts, self.steps = {}, {}
        self.node = self


class Trees(Plain):
    """The trees of a thing that is written tagged."""

    def tree(self):
        self.bytes = [71, self.edition]
        self.trees = {}
        return self.grown(self.schema.root, self.thing)

    def put(self, *bytes_):
        start = len(self.bytes)
        self.bytes += bytes_
        return list(range(start, len(self.bytes)))

    def measured(self, tree, key, head, of, thing):
        """A thing behind its length, as one of a tree's parts."""
        tree.steps[key] = head + self.put(0, 0, 0)
        start = len(self.bytes)
        tree.parts[key] = self.grown(of, thing)
        self.bytes[start - 3:start] = three(len(self.bytes) - start)

    def grown(self, of, thing):
        tree = Tree(len(self.bytes), thing)
        if of[0] == "number":
            tree.whole = self.put(*signed(thing))
        elif of[0] == "truth":
            tree.whole = self.put(int(thing))
        elif of[0] == "text":
            tree.whole = self.put(*sevens(len(thing)), *thing.encode("ascii"))
        elif of[0] == "maybe":
            tree.head = self.put(0 if thing is None else 1)
            if thing is not None:
                tree.parts["inside"] = self.grown(of[1], thing)
        elif of[0] == "choice":
            number, _, inner = self.case(of, thing.word)
            tree.head = self.put(*sevens(number))
            if inner is not None:
                tree.parts["content"] = self.grown(inner, thing.content)
        elif of[0] == "row":
            tree.head = self.put(*sevens(len(thing)))
            for at, part in enumerate(thing):
                self.measured(tree, at, [], of[2], part)
        elif thing in self.trees:
            tree.head = self.put(2, *three(self.trees[thing].at))
            tree.node = self.trees[thing]
        else:
            self.trees[thing] = tree
            fields = [field for field in self.fields(thing.kind) if field[3:] != (thing.fields[field[1]],)]
            tree.head = self.put(1, *sevens(len(fields)))
            for number, name, inner, *_ in fields:
                self.measured(tree, number, self.put(*sevens(number)), inner, thing.fields[name])
        return tree


class PlainAsk:
    """Asks a question of new of a thing of old that is written tagged."""

    def __init__(self, old, new, thing, edition=0):
        self.old, self.new = old, new
        self.trees = Trees(old, thing, edition)
        self.top = self.trees.tree()

    def answered(self, question):
        """The answer and the places looked at, or a NoTurn."""
        self.looked = {0, 1}
        answer = self.ask(self.old.root, self.new.root, self.top.thing, self.top, list(question), 0, ())
        return answer, self.ranges()

    def ranges(self):
        starts = [at for at in self.looked if at - 1 not in self.looked]
        ends = [at + 1 for at in self.looked if at + 1 not in self.looked]
        return tuple(zip(sorted(starts), sorted(ends)))

    def look(self, tree, *places):
        """Look at places, if what is asked stands among the bytes."""
        if tree is not None:
            for row in places:
                self.looked.update(getattr(tree, row))

    def ask(self, one, other, thing, tree, steps, at, path):
        """The answer of the steps still to be gone, of a thing that stands at a tree or, as a default, nowhere."""
        if other[0] == "maybe" and one[0] != "maybe":
            return self.ask(one, other[1], thing, tree, steps[1:], at + 1, path) if steps else ("maybe",)
        if one[0] == "maybe":
            self.look(tree, "head")
            inner = (thing, tree and tree.parts.get("inside"))
            if other[0] == "maybe" and (not steps or thing is None):
                return ("none", at) if steps else ("nothing",) if thing is None else ("maybe",)
            if thing is None:
                raise NoTurn(path, "nothing")
            path += (("inside",),)
            if other[0] == "maybe":
                return self.ask(one[1], other[1], *inner, steps[1:], at + 1, path)
            return self.ask(one[1], other, *inner, steps, at, path)
        if one[0] != other[0]:
            raise NoTurn(path, "sort")
        return getattr(self, "ask_" + one[0])(one, other, thing, tree, steps, at, path)

    def ask_number(self, one, other, thing, tree, steps, at, path):
        self.look(tree, "whole")
        _, low, high = other
        if not (low is None or low <= thing) or not (high is None or thing <= high):
            raise NoTurn(path, "bounds")
        return "number", thing

    def ask_truth(self, one, other, thing, tree, steps, at, path):
        self.look(tree, "whole")
        return "truth", thing

    def ask_text(self, one, other, thing, tree, steps, at, path):
        self.look(tree, "whole")
        if len(thing) > other[1]:
            raise NoTurn(path, "most")
        return "text", thing

    def ask_row(self, one, other, thing, tree, steps, at, path):
        self.look(tree, "head")
        if len(thing) > other[1]:
            raise NoTurn(path, "most")
        if not steps:
            return "row", len(thing)
        place = steps[0][1]
        if place >= len(thing):
            return "none", at
        if tree is not None:
            for n in range(place + 1):
                self.looked.update(tree.steps[n])
        inner = tree and tree.parts[place]
        return self.ask(one[2], other[2], thing[place], inner, steps[1:], at + 1, (*path, place))

    def ask_choice(self, one, other, thing, tree, steps, at, path):
        self.look(tree, "head")
        number, _, inner = [case for case in self.old.choices[one[1]] if case[1] == thing.word][0]
        cases = {case[0]: case for case in self.new.choices[other[1]]}
        if number not in cases and 0 not in cases:
            raise NoTurn(path, "case")
        _, name, new_inner = cases.get(number, cases.get(0))
        if inner is None and new_inner is not None:
            raise NoTurn(path, "sort")
        if not steps:
            return "choice", name
        if steps[0] != ("case", name):
            return "none", at
        part = tree and tree.parts["content"]
        return self.ask(inner, new_inner, thing.content, part, steps[1:], at + 1, (*path, ("case", name)))

    def ask_node(self, one, other, thing, tree, steps, at, path):
        fields = {field[0]: field for field in self.old.kinds[one[1]]}
        for number, name, _, *default in sorted(self.new.kinds[other[1]], key=lambda field: field[0]):
            if number not in fields and not default:
                raise NoTurn((*path, name), "lacks")
        self.look(tree, "first")
        if not steps:
            return "node", other[1]
        node = tree.node
        self.looked.update(tree.head)
        self.looked.update(node.head)
        field = [field for field in self.new.kinds[other[1]] if field[1] == steps[0][1]][0]
        for number in node.steps:
            if number <= field[0] or field[0] not in node.steps:
                self.looked.update(node.steps[number])
        path += (field[1],)
        if field[0] not in fields:
            return self.of_new(field[2], field[3], steps[1:], at + 1)
        part = node.parts.get(field[0])
        _, name, of, *_ = fields[field[0]]
        return self.ask(of, field[2], thing.fields[name], part, steps[1:], at + 1, path)

    def of_new(self, of, default, steps, at):
        """Of a default of new: a number, a truth, a text, () or None."""
        if steps:
            return "none", at
        if of[0] == "row":
            return "row", 0
        return ("nothing",) if of[0] == "maybe" else (of[0], default)
