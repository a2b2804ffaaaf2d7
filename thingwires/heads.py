"""The two bytes with which all that is written begins: the wire and the edition."""

WIRES = {"text": 84, "tagged": 71, "packed": 80, "columns": 67}
HEAD = 2


def wire_of(data):
    """The name of the wire that bytes tell; None where they tell none."""
    for name in WIRES:
        if len(data) > 0 and data[0] == WIRES[name]:
            return name
    return None
