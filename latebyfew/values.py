"""What integers and rows of integers are: bools and lists do not count."""


def is_integer(thing):
    """Whether thing is an int that is not a bool."""
    return isinstance(thing, int) and not isinstance(thing, bool)


def is_count(thing):
    """Whether thing is an integer from 0 on."""
    return is_integer(thing) and thing >= 0


def is_count_row(thing, size):
    """Whether thing is a tuple of just that many integers from 0 on."""
    return isinstance(thing, tuple) and len(thing) == size and all([is_count(part) for part in thing])
