"""Grants: tuples (time, giver, taker, level, passes)."""

from grantroll.errors import InvalidGrant
from grantroll.plain import is_name, is_time, is_within

TIME = 0
GIVER = 1
TAKER = 2
LEVEL = 3
ENTRIES = 5
LEAST_LEVEL = 1
MOST_LEVEL = 9
MOST_PASSES = 20


def grant_error(value):
    """The first reason why the value is not a grant, or None if it is one."""
    if not isinstance(value, tuple) or len(value) != ENTRIES:
        return ("grant",)
    time, giver, taker, level, passes = value
    if not is_time(time):
        return ("time",)
    if not is_name(giver):
        return ("giver",)
    if not is_name(taker):
        return ("taker",)
    if giver == taker:
        return ("same",)
    if not is_within(level, LEAST_LEVEL, MOST_LEVEL):
        return ("level",)
    if not is_within(passes, 0, MOST_PASSES):
        return ("passes",)
    return None


def supports(first, second):
    """Whether the first grant supports the second; InvalidGrant if one of them is not a grant."""
    for value in (first, second):
        reason = grant_error(value)
        if reason is not None:
            raise InvalidGrant(reason)
    return backs(first, second)


def backs(first, second):
    """Whether the first supports the second, for values that surely are grants."""
    earlier, _, holder, high, many = first
    later, giver, _, low, few = second
    return holder == giver and earlier < later and high >= low and many > few
