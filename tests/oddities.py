"""Objects that no type allows, also such as can't be compared, hashed, measured or shown."""

import datetime
import decimal
import fractions


class Hostile:
    """An object that refuses whatever may be done to it."""

    def _refuse(self, *_):
        raise RuntimeError("hands off")

    __eq__ = __ne__ = __lt__ = __le__ = __gt__ = __ge__ = _refuse
    __hash__ = __len__ = __bool__ = __iter__ = __contains__ = __getitem__ = _refuse
    __repr__ = __str__ = __int__ = __index__ = __add__ = __call__ = _refuse


class Equal:
    """An object that claims to be equal to all others."""

    def __eq__(self, other):
        return True

    def __hash__(self):
        return hash("a")


def odd_objects():
    """Objects that are no number, truth, text, row, None, case or node; new ones each time."""
    ring = []
    ring.append(ring)
    return [
        [], ["a"], [1, 2], {}, {"a": 1}, set(), {1}, frozenset(), b"", b"a", bytearray(b"a"),
        1.0, float("nan"), float("inf"), 1j, decimal.Decimal(1), fractions.Fraction(1),
        datetime.date(2000, 1, 1), object(), object, int, str, tuple, len, lambda: 1, range(3),
        iter([1]), (n for n in [1]), NotImplemented, ..., Hostile(), Equal(), ring, memoryview(b"a"),
        ValueError("a"), Exception,
    ]


def plain_objects():
    """Objects of the kinds that stand in schemas and things, of which most are wrong anywhere."""
    return [
        True, False, None, 0, 1, -1, 100, 10 ** 70, -10 ** 70, "", "a", "A", "number", "truth", "abcdefghi",
        (), (1,), ("a",), ("number",), ("truth", 1), ((),), ("a", "b", "c"), (1, "a"), "x" * 41,
    ]


def nested(depth, inmost, *head):
    """An object within so many tuples that begin with head."""
    thing = inmost
    for _ in range(depth):
        thing = (*head, thing)
    return thing
