"""Libraries: editions of a schema, and what is written and read by them."""

from thingwires.asking import answered
from thingwires.basics import is_bytes, is_whole
from thingwires.errors import NoBytes, NoEdition, NoMeeting, NoTurn, NoWire
from thingwires.heads import HEAD, WIRES, wire_of
from thingwires.meeting import keeps, meets
from thingwires.questions import sort_asked
from thingwires.readers import made
from thingwires.spots import TaggedSpot, ThingSpot
from thingwires.streams import unstreamed
from thingwires.turning import turned
from thingwires.views import View
from thingwires.wires import read_bytes, write_bytes


class Library:
    """Editions of a schema, by their numbers."""

    def __init__(self, editions):
        self.editions = tuple(editions)

    def grow(self, schema, *, must=()):
        """Put a schema to the editions, if it reads all things of some of them; tell its number."""
        for edition in must:
            found = meets(self.schema_of(edition), schema)
            if found[0] == "not":
                raise NoMeeting(edition, found[1], found[2])
        self.editions = (*self.editions, schema)
        return len(self.editions) - 1

    def write(self, thing, *, edition, wire="tagged"):
        """Write a thing of an edition by a wire; tell the bytes."""
        schema = self.schema_of(edition)
        if not isinstance(wire, str) or wire not in WIRES:
            raise NoWire(wire)
        schema.check(thing)
        return write_bytes(schema, thing, wire, edition)

    def read(self, data, *, edition):
        """Read bytes by an edition; tell the thing."""
        schema = self.schema_of(edition)
        old, thing = self.whole(data)
        return turned(old, schema, thing)

    def mark(self, data):
        """Tell the wire and the edition by which bytes were written."""
        if not is_bytes(data) or wire_of(data) is None:
            raise NoBytes("wire")
        if len(data) < HEAD or data[1] >= len(self.editions):
            raise NoBytes("edition")
        return wire_of(data), data[1]

    def shelf(self, data, *, edition):
        """Read all parts of a stream by an edition; tell the things, what was refused and what was torn."""
        self.schema_of(edition)
        return [self.read_piece(piece, edition) for piece in unstreamed(data)]

    def ask(self, data, question, *, edition):
        """Answer a question of bytes by an edition; tell the answer, and which bytes were looked at."""
        schema = self.schema_of(edition)
        sort_asked(schema, question)
        wire, writer = self.mark(data)
        if wire != "tagged":
            old, thing = self.whole(data)
            return answered(old, schema, question, ThingSpot(thing)), ((0, len(data)),)
        old = self.editions[writer]
        view = View(data)
        answer = answered(old, schema, question, TaggedSpot(view, HEAD))
        # The wire and the edition were looked at ahead of all that the view keeps.
        return answer, _ranges([0, 1, *sorted(view.looked)])

    def meets(self, old, new):
        """Tell whether each thing of an edition is read by another."""
        return meets(self.schema_of(old), self.schema_of(new))

    def keeps(self, old, new):
        """Tell whether nothing of an edition is lost on the way to another."""
        return keeps(self.schema_of(old), self.schema_of(new))

    def reader(self, old, new):
        """Make the reader of two editions."""
        return made(self.schema_of(old), self.schema_of(new))

    def schema_of(self, edition):
        """The schema of an edition's number, which may be any object."""
        if not is_whole(edition) or not 0 <= edition < len(self.editions):
            raise NoEdition(edition)
        return self.editions[edition]

    def whole(self, data):
        """Read bytes by the edition that wrote them; tell its schema and the thing."""
        _, writer = self.mark(data)
        schema = self.editions[writer]
        return schema, read_bytes(schema, data)

    def read_piece(self, piece, edition):
        """Tell a piece of a stream: as a thing, as refused, or as it is where it is torn."""
        if piece[0] == "torn":
            return piece
        _, place, part = piece
        try:
            return "thing", place, self.read(part, edition=edition)
        except NoBytes as no_bytes:
            return "refused", place, "NoBytes", (), no_bytes.why
        except NoTurn as no_turn:
            return "refused", place, "NoTurn", no_turn.path, no_turn.why


def _ranges(places):
    """Tell rising places as ranges, the end of each not among them."""
    ranges = []
    for place in places:
        if len(ranges) > 0 and ranges[-1][1] == place:
            ranges[-1] = (ranges[-1][0], place + 1)
        else:
            ranges.append((place, place + 1))
    return tuple(ranges)
