"""Pairs of types of two editions: what they are to each other, and where one leads to another.

A pair is a tuple (old's type, new's type).
"""

from thingwires.entries import by_number


def pair_word(pair):
    """Tell what two types are to each other: the word of both, or "force", "wrap" or "bad".

    "force" is a maybe that new knows as something sure, "wrap" something sure that new knows as a maybe.
    """
    one, other = pair
    if one[0] == other[0]:
        return one[0]
    if one[0] == "maybe":
        return "force"
    return "wrap" if other[0] == "maybe" else "bad"


def inner_pair(pair):
    """The pair within two rows, or within a pair with a maybe."""
    one, other = pair
    word = pair_word(pair)
    if word == "row":
        return one[2], other[2]
    return (one if word == "wrap" else one[1]), (other if word == "force" else other[1])


def gone_into(old, new, pair):
    """List what is gone into from a pair, in order: the steps that a path takes there, and the pair."""
    one, other = pair
    word = pair_word(pair)
    if word == "node":
        return [((field[1],), inner) for field, inner in _likes(old.kinds[one[1]], new.kinds[other[1]])]
    if word == "choice":
        likes = _likes(old.choices[one[1]], new.choices[other[1]])
        return [((("case", case[1]),), inner) for case, inner in likes if None not in inner]
    if word == "row" and one[1] > 0 and other[1] > 0:
        return [((0,), inner_pair(pair))]
    if word in ("maybe", "force"):
        return [((("inside",),), inner_pair(pair))]
    return [((), inner_pair(pair))] if word == "wrap" else []


def pairs_met(old, new):
    """Meet pairs of types, from the roots' one on: a dict with the way to each, in the order of meeting.

    A way is a tuple of the pairs ahead, each with the steps that a path takes from it.
    """
    met = {}
    ahead = [((old.root, new.root), ())]
    while ahead:
        pair, way = ahead.pop()
        if pair not in met:
            met[pair] = way
            into = [(inner, (*way, (pair, steps))) for steps, inner in gone_into(old, new, pair)]
            ahead.extend(into[::-1])
    return met


def path_of(way):
    """The path of a way."""
    return tuple([step for _, steps in way for step in steps])


def _likes(row, new_row):
    """List the fields or cases of new that old has by number, by rising numbers, each with the pair of types."""
    likes = []
    for entry in row:
        found = by_number(new_row, entry[0])
        if found is not None:
            likes.append((found, (entry[2], found[2])))
    return likes
