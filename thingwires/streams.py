"""Streams of parts, written without zeros between the zeros that end them."""

from thingwires.basics import is_bytes
from thingwires.errors import NoBytes

LONGEST_RUN = 254
CHECK_BYTES = 4
CHECK_RANGE = 65521


def streamed(parts):
    """Put parts, each with its check, one behind the other to a stream."""
    stream = []
    for part in parts:
        _refuse_others(part)
        stream.extend(_without_zeros([*part, *_check(part)]))
        stream.append(0)
    return stream


def unstreamed(data):
    """List the parts and torn pieces of a stream."""
    feeder = Feeder()
    pieces = feeder.feed(data)
    pieces.extend(feeder.done())
    return pieces


class Feeder:
    """Takes parts out of a stream that comes in pieces.

    It keeps what came behind the last 0, and the place in the stream where that begins.
    """

    def __init__(self):
        self.rest = []
        self.place = 0

    def feed(self, data):
        """List the parts and torn pieces that are ended by these bytes."""
        _refuse_others(data)
        ended = []
        start = 0
        for at in _zeros(data):
            piece = [*self.rest, *data[start:at]]
            if len(piece) > 0:
                ended.append(_read_piece(self.place, piece))
            self.rest = []
            self.place += len(piece) + 1
            start = at + 1
        self.rest.extend(data[start:])
        return ended

    def done(self):
        """List what is left, which no 0 ended, and begin anew."""
        left = []
        if len(self.rest) > 0:
            left.append(("torn", self.place, len(self.rest)))
        self.rest = []
        self.place = 0
        return left


def _refuse_others(data):
    if not is_bytes(data):
        raise NoBytes("wire")


def _zeros(data):
    """List the places of the zeros."""
    return [at for at, byte in enumerate(data) if byte == 0]


def _check(part):
    """The four bytes that are the check of a part."""
    one = sum(part) % CHECK_RANGE
    other = sum([number * byte for number, byte in enumerate(part, start=1)]) % CHECK_RANGE
    return [one // 256, one % 256, other // 256, other % 256]


def _without_zeros(whole):
    """Cut bytes into runs, and write each as its length and one more and its bytes."""
    written = []
    start = 0
    for end in [*_zeros(whole), len(whole)]:
        # What is behind a full run begins another one, which may be of none; not so behind the very end.
        while end - start > LONGEST_RUN or (end - start == LONGEST_RUN and end < len(whole)):
            written.extend([LONGEST_RUN + 1, *whole[start:start + LONGEST_RUN]])
            start += LONGEST_RUN
        written.extend([end - start + 1, *whole[start:end]])
        start = end + 1
    return written


def _with_zeros(piece):
    """Undo runs; None where they don't come out even."""
    whole = []
    at = 0
    while at < len(piece):
        end = at + piece[at]
        if end > len(piece):
            return None
        whole.extend(piece[at + 1:end])
        if piece[at] <= LONGEST_RUN and end < len(piece):
            whole.append(0)
        at = end
    return whole


def _read_piece(place, piece):
    """Tell a piece that a 0 ended as a part, or as torn."""
    whole = _with_zeros(piece)
    if whole is not None and len(whole) >= CHECK_BYTES:
        part = whole[:-CHECK_BYTES]
        if whole[-CHECK_BYTES:] == _check(part):
            return "part", place, part
    return "torn", place, len(piece)
