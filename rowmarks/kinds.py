"""What kind of value a value is, for the whole package."""

LONGEST_NAME = 6
MOST_ROWS = 12


def is_whole(value):
    """Whether a value is an integer; True and False are none."""
    return isinstance(value, int) and not isinstance(value, bool)


def is_within(value, least, most):
    """Whether a value is an integer from the least to the most."""
    return is_whole(value) and least <= value <= most


def is_name(value):
    """Whether a value is a name that a row can have."""
    if not isinstance(value, str) or len(value) > LONGEST_NAME:
        return False
    return value.isascii() and value.isalpha() and value.islower()


def is_value(value):
    """Whether a value is an integer that a row can have."""
    return is_whole(value) and abs(value) < 10 ** 30


def are_names(values):
    """Whether a list or tuple holds the names of the rows of one store."""
    if not 1 <= len(values) <= MOST_ROWS or not all([is_name(value) for value in values]):
        return False
    return len(set(values)) == len(values)
