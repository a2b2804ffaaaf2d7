"""Whether each thing of one edition is read by another, told ahead."""

from thingwires.pairing import pairs_met, path_of
from thingwires.reasons import first_dropped, first_refusal
from thingwires.witnesses import refused_thing


def meets(old, new):
    """Tell whether new reads each thing of old: the pairs met, or the first place where it may not."""
    met = pairs_met(old, new)
    for pair, way in met.items():
        reason = first_refusal(old, new, pair)
        if reason is not None:
            steps, why = reason
            return "not", (*path_of(way), *steps), why, refused_thing(old, new, pair, way)
    return "always", tuple(met)


def keeps(old, new):
    """Tell whether new reads each thing of old and passes over nothing, likewise."""
    met = pairs_met(old, new)
    for pair, way in met.items():
        reason = first_refusal(old, new, pair)
        if reason is None:
            reason = first_dropped(old, new, pair)
        if reason is not None:
            steps, why = reason
            return "not", (*path_of(way), *steps), why
    return "always", tuple(met)
