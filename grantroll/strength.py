"""How many revocations take a power from a person, and as many chains without a common grant."""

from grantroll.counting import counting_grants, is_chain, is_of_owner, is_part
from grantroll.errors import InvalidCount, OwnerPower
from grantroll.flows import separate_ways
from grantroll.grants import backs
from grantroll.plain import is_ascending, is_whole, need_name
from grantroll.powers import gives, need_at, need_power
from grantroll.revoking import without


def need_question(roll, name, power, at):
    """Raises the first error that applies: InvalidName, OwnerPower, InvalidPower, InvalidTime."""
    need_name(name)
    if name in roll.owners:
        raise OwnerPower("an owner has every power")
    need_power(power)
    need_at(at)


def strength(roll, name, power, *, at=None):
    """A tuple (chains, cut): chains without a common grant that give the power, and as many grants that cut all."""
    need_question(roll, name, power, at)
    held = counting_grants(roll)
    nexts = [[k for k, later in enumerate(held) if backs(grant, later)] for grant in held]
    starts = [k for k, grant in enumerate(held) if is_of_owner(roll, grant)]
    goals = [k for k, grant in enumerate(held) if gives(grant, name, power, at)]
    ways, cut = separate_ways(nexts, starts, goals)
    found = sorted([[held[k] for k in way] for way in ways])
    return (found, [held[k] for k in cut])


def check_strength(roll, name, power, answer, *, at=None):
    """None if the value is an answer that strength may return, or else the first thing that is wrong."""
    need_question(roll, name, power, at)
    if not isinstance(answer, tuple) or len(answer) != 2 or not all([isinstance(part, list) for part in answer]):
        return ("answer",)
    listed, cut = answer
    for k, value in enumerate(listed):
        if not is_chain(roll, value) or not gives(value[-1], name, power, at):
            return ("chain", k)
    seen = {}
    for k, value in enumerate(listed):
        if any([grant in seen for grant in value]):
            return ("twice", k)
        for grant in value:
            seen[grant] = True
    if not is_ascending(listed):
        return ("order",)
    if not is_part(roll, cut):
        return ("cut",)
    if any([gives(grant, name, power, at) for grant in without(roll, cut).grants]):
        return ("open",)
    if len(listed) != len(cut):
        return ("many",)
    return None


def keeps(roll, name, power, count, *, at=None):
    """Whether the person keeps the power, whichever grants are taken out, if these are at most count."""
    found, _ = strength(roll, name, power, at=at)
    if not is_whole(count) or count < 0:
        raise InvalidCount(count)
    return len(found) > count
