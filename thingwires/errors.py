"""The refusals, each with the fields that it bears.

None of them puts its fields into a message of its own: a field may be any object, and showing it may fail.
"""


class WireError(ValueError):
    """What stands above all refusals."""


class NoSchema(WireError):
    """What is handed in is no schema."""

    def __init__(self, path, why):
        self.path = path
        self.why = why


class NoText(WireError):
    """A text is that of no schema."""

    def __init__(self, text):
        self.text = text


class NoThing(WireError):
    """A thing is none of the type."""

    def __init__(self, path, why):
        self.path = path
        self.why = why


class NoTurn(WireError):
    """A thing can't be turned to another edition."""

    def __init__(self, path, why):
        self.path = path
        self.why = why


class NoBytes(WireError):
    """Bytes are no writing."""

    def __init__(self, why):
        self.why = why


class NoQuestion(WireError):
    """A step of a question doesn't go with its type."""

    def __init__(self, at):
        self.at = at


class NoEdition(WireError):
    """There is no edition of this number."""

    def __init__(self, edition):
        self.edition = edition


class NoWire(WireError):
    """There is no wire of this name."""

    def __init__(self, wire):
        self.wire = wire


class NoMeeting(WireError):
    """A schema doesn't read all things of an edition."""

    def __init__(self, edition, path, why):
        self.edition = edition
        self.path = path
        self.why = why


class NoLine(WireError):
    """A desk can't do what a text says."""

    def __init__(self, at, why):
        self.at = at
        self.why = why
