"""What integers and rows of them are: bools and lists do not count."""


def is_integer(thing):
    """Whether thing is an int that is not a bool."""
    return isinstance(thing, int) and not isinstance(thing, bool)


def is_count(thing):
    """Whether thing is an integer from 0 on."""
    return is_integer(thing) and thing >= 0


def is_count_row(thing, size):
    """Whether thing is a tuple of just that many integers from 0 on."""
    return isinstance(thing, tuple) and len(thing) == size and all([is_count(part) for part in thing])


def is_integer_or_none(thing):
    """Whether thing is an integer or None."""
    return thing is None or is_integer(thing)


def is_ascending(row):
    """Whether each part of a row is above the one before."""
    return all([row[k] < row[k + 1] for k in range(len(row) - 1)])


def is_at_most(one, other):
    """Whether one number is at most the other one; None counts as above every number."""
    return other is None or (one is not None and one <= other)


def least_number(numbers):
    """The least of a list of numbers and None, which counts as above every number; None if there are none."""
    return min([number for number in numbers if number is not None], default=None)


def greatest_number(numbers):
    """The greatest of one or more numbers and None, which counts as above every number."""
    return None if None in numbers else max(numbers)


def sum_or_none(number, other):
    """The sum of a number and another one, or of a number and None, which is None."""
    return None if other is None else number + other
