"""Powers: tuples (level, passes); who has which of them, and since when."""

from grantroll.counting import counting_grants
from grantroll.errors import InvalidPower, InvalidTime
from grantroll.grants import LEAST_LEVEL, LEVEL, MOST_LEVEL, MOST_PASSES, TAKER, TIME
from grantroll.plain import is_time, is_within, need_name


def is_power(value):
    """Whether the value is a power."""
    if not isinstance(value, tuple) or len(value) != 2:
        return False
    level, passes = value
    return is_within(level, LEAST_LEVEL, MOST_LEVEL) and is_within(passes, 0, MOST_PASSES)


def need_power(value):
    """Raises InvalidPower if the value is not a power."""
    if not is_power(value):
        raise InvalidPower("not a power")


def need_at(at):
    """Raises InvalidTime if this is neither a time nor None, which stands for the end."""
    if at is not None and not is_time(at):
        raise InvalidTime("neither a time nor None")


def covers(power, other):
    """Whether the one power covers the other."""
    return power[0] >= other[0] and power[1] >= other[1]


def is_to(grant, name, at):
    """Whether the grant goes to the person, at a time of at most `at`."""
    return grant[TAKER] == name and (at is None or grant[TIME] <= at)


def gives(grant, name, power, at):
    """Whether the grant, if it counts, gives the person the power at a time of at most `at`."""
    return is_to(grant, name, at) and covers(grant[LEVEL:], power)


def top_powers(held, name, at):
    """The person's maximal powers at the time, if these are the grants that count; not for an owner."""
    pairs = [grant[LEVEL:] for grant in held if is_to(grant, name, at)]
    return sorted(set([pair for pair in pairs if not any([more != pair and covers(more, pair) for more in pairs])]))


def difference(mine, theirs):
    """A (person, time) at which two lists of grants that count give different maximal powers, or None."""
    # The powers of a person change only at the times of grants to this person.
    for grant in mine + theirs:
        name = grant[TAKER]
        time = grant[TIME]
        if top_powers(mine, name, time) != top_powers(theirs, name, time):
            return (name, time)
    return None


def has(roll, name, power, *, at=None):
    """Whether the person has the power at the time, or at the end if `at` is None."""
    need_name(name)
    need_power(power)
    need_at(at)
    if name in roll.owners:
        return True
    return any([gives(grant, name, power, at) for grant in counting_grants(roll)])


def powers_of(roll, name, *, at=None):
    """The ascending list of the person's maximal powers at the time, or at the end if `at` is None."""
    need_name(name)
    need_at(at)
    if name in roll.owners:
        return [(MOST_LEVEL, MOST_PASSES)]
    return top_powers(counting_grants(roll), name, at)


def since(roll, name, power):
    """The least time at which the person has the power; None for never, and for owners."""
    need_name(name)
    need_power(power)
    # No grant goes to an owner.
    times = [grant[TIME] for grant in counting_grants(roll) if gives(grant, name, power, None)]
    return min(times, default=None)


def steps_of(roll, name):
    """The ascending list of the (time, powers) at which the person's maximal powers become these."""
    need_name(name)
    own = [grant for grant in counting_grants(roll) if is_to(grant, name, None)]
    steps = []
    for grant in own:
        powers = top_powers(own, name, grant[TIME])
        # Of several grants with one time, the first one already brings the powers of them all.
        if not steps or steps[-1][1] != powers:
            steps.append((grant[TIME], powers))
    return steps


def holders(roll, power, *, at=None):
    """The ascending list of those in roll.persons who have the power at the time, or at the end."""
    need_power(power)
    need_at(at)
    found = {}
    for grant in counting_grants(roll):
        if gives(grant, grant[TAKER], power, at):
            found[grant[TAKER]] = True
    return sorted(found)
