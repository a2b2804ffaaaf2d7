"""The whole: [1] to [3] and [33]; things of any edition, by any wire, through torn streams, read by any edition."""

import random
import unittest

from chances import chance_edition, chance_question, chance_schema, chance_thing
from plainwires import plainly_written

from thingwires.errors import NoBytes, NoThing, NoTurn
from thingwires.judging import judge_meets, judge_reader
from thingwires.library import Library
from thingwires.questions import asked
from thingwires.readers import run_reader
from thingwires.streams import Feeder, streamed
from thingwires.things import nodes_met, same, told
from thingwires.turning import turned

WIRES = ["text", "tagged", "packed", "columns"]


def chance_library(chance):
    """A library of some editions, each changed from one of those ahead."""
    editions = [chance_schema(chance)]
    while len(editions) < 4:
        editions.append(chance_edition(chance, chance.choice(editions)))
    return Library(editions)


def outcome(schema, call):
    """What a reading tells, or why it is refused."""
    try:
        return "thing", told(schema, call())
    except NoTurn as refused:
        return "NoTurn", refused.path, refused.why


class TestOneThing(unittest.TestCase):
    def test_through_streams(self):
        """What was written is read as turning tells, in whatever pieces the stream was fed."""
        refused = 0
        for seed in range(120):
            chance = random.Random(seed)
            library = chance_library(chance)
            rows = []
            for _ in range(6):
                edition = chance.randrange(4)
                thing = chance_thing(chance, library.editions[edition])
                rows.append((edition, thing, library.write(thing, edition=edition, wire=chance.choice(WIRES))))
            stream = streamed([part for _, _, part in rows])
            parts = self.fed(chance, stream)
            self.assertEqual([part for _, _, part in parts], [part for _, _, part in rows])
            for reader, new in enumerate(library.editions):
                shelf = library.shelf(stream, edition=reader)
                self.assertEqual([row[1] for row in shelf], [row[1] for row in parts])
                for (edition, thing, part), row in zip(rows, shelf):
                    old = library.editions[edition]
                    want = outcome(new, lambda: turned(old, new, thing))
                    self.assertEqual(outcome(new, lambda: library.read(part, edition=reader)), want)
                    if row[0] == "thing":
                        self.assertEqual(("thing", told(new, row[2])), want)
                    else:
                        refused += 1
                        self.assertEqual((row[0], row[2], *row[2:]), ("refused", "NoTurn", *want))
                    if part[0] == 71:
                        self.assertEqual(outcome(new, lambda: run_reader(library.reader(edition, reader), part)), want)
        self.assertGreater(refused, 100)

    def fed(self, chance, stream):
        feeder, told_, at = Feeder(), [], 0
        while at < len(stream):
            step = chance.choice([0, 1, 2, 7, 100])
            told_ += feeder.feed(stream[at:at + step])
            at += step
        return told_ + feeder.done()

    def test_torn_streams(self):
        """Parts that stand untouched between their zeros are told and read, all these in order."""
        for seed in range(150):
            chance = random.Random(seed)
            library = chance_library(chance)
            parts = [library.write(chance_thing(chance, library.editions[0]), edition=0, wire=chance.choice(WIRES)) for _ in range(5)]
            torn = chance.randrange(5)
            pieces = [streamed([part]) for part in parts]
            piece = pieces[torn]
            at = chance.randrange(len(piece) - 1)
            pieces[torn] = chance.choice([piece[:at] + piece[at + 1:-1] + [0], piece[:at] + [(piece[at] + 1) % 256] + piece[at + 1:], piece[:at] + [7] + piece[at:]])
            shelf = library.shelf([byte for row in pieces for byte in row], edition=0)
            things = [told(library.editions[0], row[2]) for row in shelf if row[0] == "thing"]
            whole = [told(library.editions[0], library.read(part, edition=0)) for number, part in enumerate(parts) if number != torn]
            self.assertTrue(self.are_within(whole, things))

    def are_within(self, few, many):
        rest = iter(many)
        return all(any(thing == other for other in rest) for thing in few)

    def test_read_by_a_third_edition(self):
        """What was read may be written by the reader and read by a third edition, as turning twice tells."""
        many = 0
        for seed in range(200):
            chance = random.Random(seed)
            library = chance_library(chance)
            old, new, third = library.editions[:3]
            thing = chance_thing(chance, old)
            try:
                read = library.read(library.write(thing, edition=0, wire=chance.choice(WIRES)), edition=1)
                new.check(read)
            except (NoTurn, NoThing):
                continue
            many += 1
            for wire in WIRES:
                data = library.write(read, edition=1, wire=wire)
                want = outcome(third, lambda: turned(new, third, turned(old, new, thing)))
                self.assertEqual(outcome(third, lambda: library.read(data, edition=2)), want)
        self.assertGreater(many, 50)

    def test_questions_on_bytes(self):
        for seed in range(150):
            chance = random.Random(seed)
            library = chance_library(chance)
            edition, reader = chance.randrange(4), chance.randrange(4)
            old, new = library.editions[edition], library.editions[reader]
            thing = chance_thing(chance, old)
            for wire in WIRES:
                data = library.write(thing, edition=edition, wire=wire)
                try:
                    read = library.read(data, edition=reader)
                except NoTurn:
                    continue
                for _ in range(3):
                    question = chance_question(chance, new)
                    self.assertEqual(library.ask(data, question, edition=reader)[0], asked(new, read, question))


class TestOneWriting(unittest.TestCase):
    def test_two_things_are_written_alike_just_where_they_are_the_same(self):
        alike = 0
        for seed in range(150):
            chance = random.Random(seed)
            library = chance_library(chance)
            schema = library.editions[0]
            things = [chance_thing(chance, schema, nodes=1) for _ in range(5)]
            for wire in WIRES:
                rows = [library.write(thing, edition=0, wire=wire) for thing in things]
                for thing, row in zip(things, rows):
                    for other, another in zip(things, rows):
                        self.assertEqual(row == another, same(schema, thing, other))
                        alike += row == another and thing is not other
        self.assertGreater(alike, 100)

    def test_whatever_bytes_are_read_are_the_writing_of_what_was_read(self):
        """Bytes made by chance of pieces of writings."""
        read = 0
        for seed in range(120):
            chance = random.Random(seed)
            library = chance_library(chance)
            for wire in WIRES:
                rows = [library.write(chance_thing(chance, library.editions[0]), edition=0, wire=wire) for _ in range(3)]
                for _ in range(15):
                    one, other = chance.choice(rows), chance.choice(rows)
                    data = one[:chance.randrange(2, len(one) + 1)] + other[chance.randrange(2, len(other) + 1):]
                    try:
                        found = library.read(data, edition=0)
                    except NoBytes as refused:
                        self.assertEqual(refused.why, "thing")
                        continue
                    read += 1
                    self.assertEqual(library.write(found, edition=0, wire=wire), data)
                    self.assertEqual(plainly_written(library.editions[0], found, wire), data)
        self.assertGreater(read, 200)


class TestToldAhead(unittest.TestCase):
    def test_what_is_told_ahead_is_so(self):
        always = kept = 0
        for seed in range(250):
            chance = random.Random(seed)
            library = chance_library(chance)
            for old in range(3):
                new = chance.randrange(4)
                paper, keeping = library.meets(old, new), library.keeps(old, new)
                one, other = library.editions[old], library.editions[new]
                self.assertEqual(judge_meets(one, other, paper), "right")
                self.assertEqual(judge_reader(one, other, library.reader(old, new)), "right")
                if paper[0] == "not":
                    data = library.write(paper[3], edition=old, wire=chance.choice(WIRES))
                    self.assertEqual(outcome(other, lambda: library.read(data, edition=new)), ("NoTurn", *paper[1:3]))
                    continue
                always += 1
                back = keeping[0] == "always" and library.meets(new, old)[0] == "always"
                for _ in range(3):
                    thing = chance_thing(chance, one)
                    read = library.read(library.write(thing, edition=old, wire=chance.choice(WIRES)), edition=new)
                    if back and self.is_one_to_one(keeping[1]):
                        kept += 1
                        self.assertTrue(same(one, turned(other, one, read), thing))
        self.assertGreater(always, 100)
        self.assertGreater(kept, 50)

    def is_one_to_one(self, pairs):
        kinds = {(one[1], other[1]) for one, other in pairs if one[0] == "node"}
        return len(kinds) == len({kind for kind, _ in kinds})

    def test_what_stands_written_by_must_is_read(self):
        grown = 0
        for seed in range(150):
            chance = random.Random(seed)
            library = chance_library(chance)
            must = [edition for edition in range(4) if library.meets(edition, 3)[0] == "always"]
            number = library.grow(library.editions[3], must=must)
            for edition in must:
                data = library.write(chance_thing(chance, library.editions[edition]), edition=edition, wire=chance.choice(WIRES))
                found = library.read(data, edition=number)
                grown += 1
                self.assertEqual(told(library.editions[3], found), told(library.editions[3], library.read(data, edition=3)))
        self.assertGreater(grown, 100)


class TestAskersOwn(unittest.TestCase):
    def test_nodes_are_new_each_time(self):
        for seed in range(60):
            chance = random.Random(seed)
            library = chance_library(chance)
            schema = library.editions[0]
            thing = chance_thing(chance, schema)
            data = library.write(thing, edition=0)
            things = [thing, library.read(data, edition=0), library.read(data, edition=0), run_reader(library.reader(0, 0), data),
                      library.shelf(streamed([data]), edition=0)[0][2]]
            nodes = [node for part in things for node in nodes_met(schema, part)]
            self.assertEqual(len(nodes), len(set(nodes)))
            for node in nodes:
                self.assertEqual(len([other for other in nodes if other.fields is node.fields]), 1)


if __name__ == "__main__":
    unittest.main()
