"""Standing sets: sets of grants each of which counts in the roll of these grants alone."""

from grantroll.counting import chains, counting_grants, is_of_owner
from grantroll.errors import InvalidIndex, NotStanding, TooMany
from grantroll.grants import backs
from grantroll.plain import is_within
from grantroll.rolls import chosen_grants

MOST_COUNTING = 12


def is_standing(roll, grants):
    """Whether these grants of the roll stand."""
    return standing_part(roll, grants) == chosen_grants(roll, grants)


def standing_part(roll, grants):
    """The greatest standing subset of these grants of the roll, in ascending order."""
    return counting_grants(roll.only(grants))


def few_counting(roll):
    """The ascending list of the grants that count; TooMany if they are more than can be looked at."""
    held = counting_grants(roll)
    if len(held) > MOST_COUNTING:
        raise TooMany(len(held))
    return held


def bits_of(held, part):
    """The number that stands for a set of these grants that count: bit k is 1 if grant k is in it."""
    return sum([1 << k for k, grant in enumerate(held) if grant in part])


def standing_numbers(roll, held):
    """The numbers of all standing sets, in the order of the sets as ascending lists."""
    free = [is_of_owner(roll, grant) for grant in held]
    backing = [bits_of(held, [earlier for earlier in held if backs(earlier, grant)]) for grant in held]
    found = []
    waiting = [(0, 0)]
    while waiting:
        # What supports a grant stands before it, so each beginning of a standing list stands.
        bits, start = waiting.pop()
        found.append(bits)
        for k in reversed(range(start, len(held))):
            if free[k] or bits & backing[k]:
                waiting.append((bits | 1 << k, k + 1))
    return found


def standing_count(roll):
    """How many standing sets there are."""
    return len(standing_numbers(roll, few_counting(roll)))


def standing_at(roll, index):
    """The standing set with this index, as an ascending list."""
    held = few_counting(roll)
    numbers = standing_numbers(roll, held)
    if not is_within(index, 0, len(numbers) - 1):
        raise InvalidIndex(index)
    return [grant for k, grant in enumerate(held) if numbers[index] >> k & 1]


def standing_index(roll, grants):
    """The index of the standing set of these grants."""
    held = few_counting(roll)
    if not is_standing(roll, grants):
        raise NotStanding("the grants do not stand")
    return standing_numbers(roll, held).index(bits_of(held, grants))


def build_orders(roll):
    """In how many orders the grants that count can be put so that each beginning stands."""
    held = few_counting(roll)
    orders = {0: 1}
    # A set with one grant less has a smaller number; the empty set has the number 0.
    for bits in sorted(standing_numbers(roll, held))[1:]:
        less = [bits - (1 << k) for k in range(len(held)) if bits >> k & 1]
        orders[bits] = sum([orders.get(number, 0) for number in less])
    return orders[bits_of(held, held)]


def minimal_sets(roll, grant):
    """The minimal standing sets that contain the grant, as ascending lists in ascending order."""
    few_counting(roll)
    for chain in chains(roll, grant):
        if is_least(chain):
            yield chain


def is_least(chain):
    """Whether no smaller part of the chain is a chain for its last grant: no grant supports one after the next."""
    return not any([backs(first, later) for k, first in enumerate(chain) for later in chain[k + 2:]])
