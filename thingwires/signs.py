"""Signs and the codes by which they are written."""

from thingwires.basics import FIRST_SIGN, PERCENT_SIGN, is_code
from thingwires.errors import NoBytes

# All signs by rising codes; the percent sign, which is none, has no place among them.
SIGNS = " !\"#$&'()*+,-./0123456789:;<=>?@ABCDEFGHIJKLMNOPQRSTUVWXYZ[\\]^_`abcdefghijklmnopqrstuvwxyz{|}~"


def codes_of(text):
    """The codes of a text's signs."""
    return [ord(sign) for sign in text]


def text_of(codes):
    """The text that codes write; numbers that are the code of no sign are refused with NoBytes."""
    if not all([is_code(code) for code in codes]):
        raise NoBytes("thing")
    return "".join([_sign_of(code) for code in codes])


def _sign_of(code):
    at = code - FIRST_SIGN
    return SIGNS[at] if code < PERCENT_SIGN else SIGNS[at - 1]
