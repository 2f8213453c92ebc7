"""Plain values: integers that are no booleans, times and names."""

from grantroll.errors import InvalidName

MOST_TIME = 10 ** 30
MOST_LETTERS = 8


def is_whole(value):
    """Whether the value is an integer; a boolean is none."""
    return isinstance(value, int) and not isinstance(value, bool)


def is_within(value, least, most):
    """Whether the value is an integer from least to most."""
    return is_whole(value) and least <= value <= most


def is_time(value):
    """Whether the value is a time."""
    return is_within(value, -MOST_TIME, MOST_TIME)


def is_name(value):
    """Whether the value is a string of 1 to 8 letters from a to z."""
    if not isinstance(value, str) or not 1 <= len(value) <= MOST_LETTERS:
        return False
    return all(["a" <= letter <= "z" for letter in value])


def need_name(value):
    """Raises InvalidName if the value is not a name."""
    if not is_name(value):
        raise InvalidName("not a name")


def is_ascending(values):
    """Whether the values ascend, with none of them twice."""
    return all([first < second for first, second in zip(values, values[1:])])
