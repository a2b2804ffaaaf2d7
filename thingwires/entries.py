"""Fields and cases, looked up in a schema's rows of them."""


def by_number(row, number):
    """The field or case of a number; None where there is none."""
    for entry in row:
        if entry[0] == number:
            return entry
    return None


def by_name(row, name):
    """The field or case of a name, which may be any object; None where there is none."""
    if not isinstance(name, str):
        return None
    for entry in row:
        if entry[1] == name:
            return entry
    return None


def case_read(row, number):
    """The case as which a reader with this row of cases reads one of a number; None where it can't."""
    like = by_number(row, number)
    return by_number(row, 0) if like is None else like


def first_lack(fields, new_fields):
    """The name of the first field of new that has neither its like in old nor a default; None where none lacks."""
    for field in new_fields:
        if len(field) == 3 and by_number(fields, field[0]) is None:
            return field[1]
    return None
