"""Two rolls to which grants are added, and what tells them apart."""

from grantroll.counting import counting_among, counting_grants, is_of_owner
from grantroll.errors import InvalidTime, KnownName
from grantroll.grants import LEAST_LEVEL, LEVEL, MOST_LEVEL, MOST_PASSES, TAKER, TIME, grant_error
from grantroll.plain import MOST_TIME, is_name, is_time, need_name
from grantroll.powers import covers, difference, has, top_powers
from grantroll.rolls import need_same_owners


def later_grant(one, other, name):
    """The least grant to this new name, just after all others, that counts in one roll alone when both get it."""
    need_same_owners(one, other)
    need_name(name)
    time = time_after(one, other)
    if name in [*one.owners, *one.persons, *other.persons]:
        raise KnownName(name)
    mine = counting_grants(one)
    theirs = counting_grants(other)
    # A grant of an owner counts in both rolls, and one of a person who is in neither of them in neither.
    for giver in sorted(set([*one.persons, *other.persons])):
        power = least_difference(top_powers(mine, giver, None), top_powers(theirs, giver, None))
        if power is not None:
            return (time, giver, name, *power)
    return None


def time_after(one, other):
    """The time after all grants of both rolls; InvalidTime if there is none."""
    times = [grant[TIME] for grant in [*one.grants, *other.grants]]
    if not times or max(times) == MOST_TIME:
        raise InvalidTime("no time is one more than the greatest time of a grant")
    return max(times) + 1


def least_difference(powers, others):
    """The least (level, passes) of a later grant that just one of two persons with these powers can give, or None."""
    for level in range(LEAST_LEVEL, MOST_LEVEL + 1):
        for passes in range(MOST_PASSES):
            # Who passes a right on had it with more passes.
            needed = (level, passes + 1)
            if has_one(powers, needed) != has_one(others, needed):
                return (level, passes)
    return None


def has_one(powers, needed):
    """Whether one of the powers covers the one that is needed."""
    return any([covers(power, needed) for power in powers])


def can_count(roll, grant):
    """Whether the grant counts when some grants are added to the roll."""
    return is_of_owner(roll, grant) or (grant[LEVEL + 1] < MOST_PASSES and grant[TIME] > -MOST_TIME)


def least_support(roll, grant):
    """The list of the last and least grant of an owner that supports this one; none for a grant of an owner."""
    if is_of_owner(roll, grant):
        return []
    time, giver, _, level, passes = grant
    return [(time - 1, roll.owners[0], giver, level, passes + 1)]


def only_in_one(one, other):
    """The list of pairs (roll, grant) for the grants that just this one of the two rolls has, and that can count."""
    sides = [(one, grant) for grant in (one - other).grants] + [(other, grant) for grant in (other - one).grants]
    return [(roll, grant) for roll, grant in sides if can_count(roll, grant)]


def same_under_adding(one, other):
    """None if powers are the same whatever is added to both rolls; else an experiment (added, name, time)."""
    need_same_owners(one, other)
    found = difference(counting_grants(one), counting_grants(other))
    if found is not None:
        return ([], *found)
    for roll, grant in only_in_one(one, other):
        name = grant[TAKER]
        time = grant[TIME]
        if not has(roll, name, grant[LEVEL:], at=time):
            # The least support lets nothing else count that would give this power in the other roll at this time.
            return (least_support(roll, grant), name, time)
    return None


def same_always(one, other):
    """None if powers are the same whatever is added to both rolls and then revoked; else (added, left, name, time)."""
    need_same_owners(one, other)
    for roll, grant in only_in_one(one, other):
        added = least_support(roll, grant)
        return (added, [*added, grant], grant[TAKER], grant[TIME])
    return None


def with_added(roll, added):
    """The ascending list of the grants of the roll and of the added ones."""
    return sorted([*roll.grants, *[grant for grant in added if grant not in roll]])


def are_grants(value):
    """Whether the value is a list of different grants."""
    if not isinstance(value, list) or not all([grant_error(entry) is None for entry in value]):
        return False
    return len(set(value)) == len(value)


def is_experiment(owners, added, name, time):
    """Whether these grants can be added to rolls of these owners, and this person be looked at, at this time."""
    if not are_grants(added) or any([grant[TAKER] in owners for grant in added]):
        return False
    return is_name(name) and name not in owners and is_time(time)


def differ(owners, mine, theirs, name, time):
    """Whether two ascending lists of grants give the person different maximal powers at the time."""
    held = counting_among(owners, mine)
    others = counting_among(owners, theirs)
    return top_powers(held, name, time) != top_powers(others, name, time)


def adding_tells(one, other, value):
    """Whether the value is an experiment (added, name, time) that tells the two rolls apart."""
    need_same_owners(one, other)
    if not isinstance(value, tuple) or len(value) != 3:
        return False
    added, name, time = value
    if not is_experiment(one.owners, added, name, time):
        return False
    return differ(one.owners, with_added(one, added), with_added(other, added), name, time)


def always_tells(one, other, value):
    """Whether the value is an experiment (added, left, name, time) that tells the two rolls apart."""
    need_same_owners(one, other)
    if not isinstance(value, tuple) or len(value) != 4:
        return False
    added, left, name, time = value
    if not is_experiment(one.owners, added, name, time) or not are_grants(left):
        return False
    mine = [grant for grant in with_added(one, added) if grant in left]
    theirs = [grant for grant in with_added(other, added) if grant in left]
    return differ(one.owners, mine, theirs, name, time)
