"""Whether what was told ahead of two editions is so."""

from thingwires.basics import alike, is_row
from thingwires.errors import NoThing, NoTurn
from thingwires.pairing import gone_into
from thingwires.readers import made
from thingwires.reasons import first_refusal
from thingwires.schemas import is_sort
from thingwires.turning import turned


def judge_meets(old, new, paper):
    """Tell that what meets told of two editions is "right", or the first thing that is wrong."""
    if paper[0] == "always":
        return _judge_pairs(old, new, [tuple(pair) if is_row(pair) else () for pair in paper[1]])
    return _judge_refusal(old, new, paper[1], paper[2], paper[3])


def judge_reader(old, new, steps):
    """Tell that a reader of two editions is "right", or the place of the first step that is wrong."""
    right = made(old, new)
    for at, (step, other) in enumerate(zip(right, steps)):
        if not alike(step, other):
            return at
    return "right" if len(steps) == len(right) else min(len(steps), len(right))


def _judge_pairs(old, new, pairs):
    """Judge the pairs of a paper by which each thing is read."""
    if pairs[:1] != [(old.root, new.root)]:
        return "root"
    for at, pair in enumerate(pairs):
        if not _is_pair(old, new, pair) or first_refusal(old, new, pair) is not None:
            return "refused", at
        if not all([inner in pairs for _, inner in gone_into(old, new, pair)]):
            return "open", at
    return "right"


def _is_pair(old, new, pair):
    """Whether an object is a type of old and one of new; of others none can be read."""
    if len(pair) != 2:
        return False
    one, other = pair
    return is_sort(one, old.kinds, old.choices) and is_sort(other, new.kinds, new.choices)


def _judge_refusal(old, new, path, why, thing):
    """Judge a thing that is refused, and the path and the reason; each of them may be any object."""
    try:
        old.check(thing)
    except NoThing:
        return "thing"
    try:
        turned(old, new, thing)
    except NoTurn as refused:
        if not alike(refused.path, path):
            return "path"
        return "right" if alike(refused.why, why) else "why"
    return "turn"
