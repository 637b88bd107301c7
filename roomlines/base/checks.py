"""Integers within bounds, and values in ascending sequence or in rows."""

from roomlines.errors import InvalidNumber


def is_number(value, least, most):
    """Whether the value is an integer from least to most; True and False are none."""
    return isinstance(value, int) and not isinstance(value, bool) and least <= value <= most


def check_number(value, least, most):
    """Raise InvalidNumber unless the value is an integer from least to most."""
    if not is_number(value, least, most):
        raise InvalidNumber(value)


def check_count(value):
    """Raise InvalidNumber unless the value is an integer from 0 on, of at most sixty digits."""
    check_number(value, 0, 10 ** 60 - 1)


def are_ascending(values):
    """Whether each value of a tuple is less than the next one."""
    return all([values[at - 1] < values[at] for at in range(1, len(values))])


def are_numbers_up(value, least, most):
    """Whether the value is an ascending tuple of integers from least to most."""
    if not isinstance(value, tuple):
        return False
    return all([is_number(part, least, most) for part in value]) and are_ascending(value)


def has_all_once(value, size):
    """Whether the value is a tuple of tuples, none of them empty, in which each of so many rooms stands just once."""
    if not isinstance(value, tuple) or not all([isinstance(row, tuple) and len(row) > 0 for row in value]):
        return False
    rooms = [room for row in value for room in row]
    return all([is_number(room, 0, size - 1) for room in rooms]) and sorted(rooms) == list(range(size))
