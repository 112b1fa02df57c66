"""The kinds of values that the document names."""

MOST_LETTERS = 12
LAST_STATE = 99


def is_whole(value):
    """Tell whether a value is an integer: for Python flags are integers, too, here they are not."""
    return isinstance(value, int) and not isinstance(value, bool)


def is_state(value):
    """Tell whether a value is a state."""
    return is_whole(value) and 0 <= value <= LAST_STATE


def is_name(value):
    """Tell whether a value is a name."""
    if not isinstance(value, str) or not 1 <= len(value) <= MOST_LETTERS:
        return False
    return all(["a" <= letter <= "z" for letter in value])


def is_row(value):
    """Tell whether a value is a row."""
    return isinstance(value, (list, tuple))
