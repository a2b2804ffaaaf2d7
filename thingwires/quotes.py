"""How a text is written between two quotes, and other values as words."""


def show_value(value):
    """Write a number, a truth or a text."""
    if isinstance(value, str):
        return quoted(value)
    if isinstance(value, bool):
        return "yes" if value else "no"
    return str(value)


def quoted(text):
    """Write a text between two quotes, a backslash ahead of each quote and each backslash in it."""
    inner = text.replace("\\", "\\\\").replace('"', '\\"')
    return f'"{inner}"'


def unquoted(word):
    """Read a text that is written between two quotes; None where there are no quotes around it.

    What lacks a backslash, or has one too many, is read as well: who needs the one writing of
    a text holds what quoted tells of it against the word.
    """
    if len(word) < 2 or not word.startswith('"') or not word.endswith('"'):
        return None
    signs = []
    is_behind_backslash = False
    for sign in word[1:-1]:
        if sign == "\\" and not is_behind_backslash:
            is_behind_backslash = True
        else:
            signs.append(sign)
            is_behind_backslash = False
    return "".join(signs)
