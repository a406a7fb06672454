"""What kind of value a value is, for the whole package."""


def is_whole(value):
    """Whether a value is an integer; True and False are none."""
    return isinstance(value, int) and not isinstance(value, bool)


def is_within(value, least, most):
    """Whether a value is an integer from the least to the most."""
    return is_whole(value) and least <= value <= most
