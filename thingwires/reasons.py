"""Why a thing of a pair of types may be refused at the pair itself, or may lose something there.

A reason is told as a tuple of the steps from the pair to the place and why, or None where there is none.
"""

from thingwires.basics import GREATEST_NUMBER, nearest
from thingwires.entries import by_number, case_read, first_lack
from thingwires.pairing import pair_word


def first_refusal(old, new, pair):
    """The first reason for which a thing may be refused at a pair."""
    one, other = pair
    word = pair_word(pair)
    if word == "number" and refused_number(pair) is not None:
        return (), "bounds"
    if word in ("text", "row") and one[1] > other[1]:
        return (), "most"
    if word == "force":
        return (), "nothing"
    if word == "choice":
        case = refused_case(old, new, pair)
        return None if case is None else ((), _case_fault(case, new.choices[other[1]]))
    if word == "node":
        lack = first_lack(old.kinds[one[1]], new.kinds[other[1]])
        return None if lack is None else ((lack,), "lacks")
    return ((), "sort") if word == "bad" else None


def first_dropped(old, new, pair):
    """The first that new passes over at a pair at which no thing is refused."""
    one, other = pair
    word = pair_word(pair)
    if word == "node":
        for field in old.kinds[one[1]]:
            if by_number(new.kinds[other[1]], field[0]) is None:
                return (field[1],), "dropped"
    if word == "choice":
        for case in old.choices[one[1]]:
            like = by_number(new.choices[other[1]], case[0])
            if like is None or (like[2] is None and case[2] is not None):
                return (), "dropped"
    return None


def refused_number(pair):
    """The number of least distance from 0 that is within old's bounds and out of new's; None if there is none."""
    one, other = pair
    low = max(_bound(one[1], -GREATEST_NUMBER), -GREATEST_NUMBER)
    high = min(_bound(one[2], GREATEST_NUMBER), GREATEST_NUMBER)
    below = _bound(other[1], low) - 1
    above = _bound(other[2], high) + 1
    ranges = [(low, min(high, below)), (max(low, above), high)]
    numbers = [nearest(least, most) for least, most in ranges if least <= most]
    return min(numbers, key=lambda number: (abs(number), -number), default=None)


def refused_case(old, new, pair):
    """The first case of old that new can't read for itself; None where there is none."""
    one, other = pair
    for case in old.choices[one[1]]:
        if _case_fault(case, new.choices[other[1]]) is not None:
            return case
    return None


def _bound(bound, otherwise):
    return otherwise if bound is None else bound


def _case_fault(case, new_cases):
    """Why a case of old is refused for itself by a row of cases of new; None where it isn't."""
    found = case_read(new_cases, case[0])
    if found is None:
        return "case"
    return "sort" if case[2] is None and found[2] is not None else None
