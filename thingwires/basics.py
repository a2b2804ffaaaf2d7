"""What a whole number, a text, a row and bytes are."""

GREATEST_NUMBER = 10 ** 60 - 1
FIRST_SIGN = 32
LAST_SIGN = 126
PERCENT_SIGN = 37
LAST_BYTE = 255


def is_whole(thing):
    """Whether an object is a whole number; truths are ints for Python, but no numbers here."""
    return isinstance(thing, int) and not isinstance(thing, bool)


def is_sign(sign):
    """Whether a text of one character is a sign."""
    code = ord(sign)
    return FIRST_SIGN <= code <= LAST_SIGN and code != PERCENT_SIGN


def is_text(thing):
    """Whether an object is a text made of signs."""
    return isinstance(thing, str) and all([is_sign(sign) for sign in thing])


def is_row(thing):
    """Whether an object is a list or a tuple."""
    return isinstance(thing, (list, tuple))


def is_bytes(thing):
    """Whether an object is a row of whole numbers from 0 to 255."""
    return is_row(thing) and all([is_whole(part) and 0 <= part <= LAST_BYTE for part in thing])


def keeps_bounds(number, low, high):
    """Whether a whole number is neither below the low bound nor above the high one."""
    if low is not None and number < low:
        return False
    return high is None or number <= high


def keeps_figures(number):
    """Whether a whole number has at most sixty figures."""
    return abs(number) <= GREATEST_NUMBER


def nearest(low, high):
    """The number of least distance from 0 within bounds."""
    if low is not None and low > 0:
        return low
    if high is not None and high < 0:
        return high
    return 0
