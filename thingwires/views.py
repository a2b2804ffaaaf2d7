"""Bytes as they are read."""

from thingwires.errors import NoBytes
from thingwires.heads import HEAD
from thingwires.signs import text_of

THREE = 3
SEVEN = 128
BYTE = 256
# No number of at most sixty figures has more sevens; what has is refused ahead of being worked out.
MOST_SEVENS = 29


class View:
    """Bytes that are read from a place on and up to an end; it keeps which of them were looked at.

    What isn't there, or can't stand there, is refused with NoBytes.
    """

    def __init__(self, data):
        self.data = data
        self.at = HEAD
        self.end = len(data)
        self.looked = {}

    def go(self, at, end):
        """Read on from another place, up to another end."""
        self.at = at
        self.end = end

    def byte(self):
        """Read a byte."""
        if self.at >= self.end:
            raise NoBytes("thing")
        self.looked[self.at] = True
        self.at += 1
        return self.data[self.at - 1]

    def flag(self):
        """Read a byte that is 1 or 0, as a truth."""
        byte = self.byte()
        if byte > 1:
            raise NoBytes("thing")
        return byte == 1

    def lone(self):
        """Read a number from 0 on that is written by sevens."""
        number = 0
        weight = 1
        for _ in range(MOST_SEVENS):
            byte = self.byte()
            number += byte % SEVEN * weight
            if byte < SEVEN:
                return number
            weight *= SEVEN
        raise NoBytes("thing")

    def number(self):
        """Read a number of any sign that is written by sevens."""
        lone = self.lone()
        return lone // 2 if lone % 2 == 0 else -(lone + 1) // 2

    def wide(self, width):
        """Read a number that is written in so many bytes, the greatest part first."""
        number = 0
        for _ in range(width):
            number = number * BYTE + self.byte()
        return number

    def three(self):
        """Read a number in three bytes."""
        return self.wide(THREE)

    def signs(self, many):
        """Read a text of so many signs."""
        if many > self.end - self.at:
            raise NoBytes("thing")
        return text_of([self.byte() for _ in range(many)])

    def measured_signs(self):
        """Read how many signs a text has, and these."""
        return self.signs(self.lone())

    def span(self):
        """Pass a thing behind its length; tell where it begins and ends."""
        length = self.three()
        start = self.at
        if length > self.end - start:
            raise NoBytes("thing")
        self.at = start + length
        return start, self.at

    def span_ahead(self):
        """From where to where bytes are still to be read."""
        return self.at, self.end

    def spans_of_fields(self):
        """Pass the fields of a node; tell by their numbers where they begin and end."""
        spans = {}
        for _ in range(self.lone()):
            number = self.lone()
            spans[number] = self.span()
        return spans
