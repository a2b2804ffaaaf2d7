"""How numbers and texts are written in bytes."""

from thingwires.signs import codes_of

SEVEN = 128
BYTE = 256


def lone_bytes(number):
    """Write a number from 0 on by sevens."""
    sevens = []
    while number >= SEVEN:
        sevens.append(number % SEVEN + SEVEN)
        number //= SEVEN
    return [*sevens, number]


def number_bytes(number):
    """Write a number of any sign by sevens."""
    return lone_bytes(2 * number if number >= 0 else -2 * number - 1)


def wide_bytes(number, width):
    """Write a number from 0 on in so many bytes, the greatest part first."""
    parts = []
    for _ in range(width):
        parts.append(number % BYTE)
        number //= BYTE
    return parts[::-1]


def text_bytes(text):
    """Write how many signs a text has, and these."""
    return [*lone_bytes(len(text)), *codes_of(text)]


def width_of(most):
    """How many bytes are needed for numbers from 0 up to a greatest one."""
    return (most.bit_length() + 7) // 8
