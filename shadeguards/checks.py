"""What numbers are."""


def is_number(thing):
    """Return True if the thing, any value, is an integer; True and False are none."""
    return isinstance(thing, int) and not isinstance(thing, bool)


def is_index(thing, many):
    """Return True if the thing, any value, is an index below this number."""
    return is_number(thing) and 0 <= thing < many
