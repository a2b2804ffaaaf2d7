"""What a whole number, a text, a row and bytes are, and when two such are alike."""

FIGURES = "0123456789"
GREATEST_NUMBER = 10 ** 60 - 1
FIRST_SIGN = 32
LAST_SIGN = 126
PERCENT_SIGN = 37
LAST_BYTE = 255


def is_whole(thing):
    """Whether an object is a whole number; truths are ints for Python, but no numbers here."""
    return isinstance(thing, int) and not isinstance(thing, bool)


def is_code(code):
    """Whether a number is the code of a sign."""
    return FIRST_SIGN <= code <= LAST_SIGN and code != PERCENT_SIGN


def is_text(thing):
    """Whether an object is a text made of signs."""
    return isinstance(thing, str) and all([is_code(ord(sign)) for sign in thing])


def is_row(thing):
    """Whether an object is a list or a tuple."""
    return isinstance(thing, (list, tuple))


def is_bytes(thing):
    """Whether an object is a row of whole numbers from 0 to 255."""
    return is_row(thing) and all([is_whole(part) and 0 <= part <= LAST_BYTE for part in thing])


def keeps_bounds(number, low, high):
    """Whether a whole number is neither below the low bound nor above the high one."""
    if low is not None and number < low:
        return False
    return high is None or number <= high


def keeps_figures(number):
    """Whether a whole number has at most sixty figures."""
    return abs(number) <= GREATEST_NUMBER


def nearest(low, high):
    """The number of least distance from 0 within bounds."""
    if low is not None and low > 0:
        return low
    if high is not None and high < 0:
        return high
    return 0


def alike(one, other):
    """Whether another object, which may be any, is like one of tuples, numbers, truths, texts and None.

    Python holds a truth and a number equal, and some objects equal to all; here none of them is.
    """
    ahead = [(one, other)]
    while ahead:
        left, right = ahead.pop()
        if not isinstance(left, tuple):
            if not _are_equal(left, right):
                return False
        elif isinstance(right, tuple) and len(left) == len(right):
            ahead.extend(list(zip(left, right)))
        else:
            return False
    return True


def _are_equal(one, other):
    if one is None:
        return other is None
    if isinstance(one, bool):
        return isinstance(other, bool) and one == other
    if isinstance(one, str):
        return isinstance(other, str) and one == other
    return is_whole(other) and one == other
