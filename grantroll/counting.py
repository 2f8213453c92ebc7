"""Which grants of a roll count, and what shows it."""

from grantroll.grants import GIVER, backs
from grantroll.plain import is_ascending
from grantroll.rolls import need_grant


def is_of_owner(roll, grant):
    """Whether the giver of the grant is an owner of the roll."""
    return grant[GIVER] in roll.owners


def counts_beside(owners, held, grant):
    """Whether the grant counts where just these others do: one of an owner, or one that they support."""
    return grant[GIVER] in owners or any([backs(earlier, grant) for earlier in held])


def counting_among(owners, grants):
    """The list of those that count if these, which are ascending, are all grants there are."""
    found = []
    for grant in grants:
        # What supports a grant has a smaller time, so it was looked at before.
        if counts_beside(owners, found, grant):
            found.append(grant)
    return found


def counting_grants(roll):
    """The ascending list of the grants that count."""
    return counting_among(roll.owners, roll.grants)


def counts(roll, grant):
    """Whether the grant counts."""
    need_grant(roll, grant)
    return grant in counting_grants(roll)


def steps_to(roll, grant):
    """A dict that has, for each grant that leads to this one, the ascending list of the next ones.

    The grant itself is there with an empty list. So no way forward through the dict is a dead end.
    """
    steps = {grant: []}
    for first in reversed(roll.grants):
        nexts = sorted([later for later in steps if backs(first, later)])
        if nexts:
            steps[first] = nexts
    return steps


def chains(roll, grant):
    """All chains for the grant, in ascending order of lists."""
    need_grant(roll, grant)
    steps = steps_to(roll, grant)
    waiting = [[first] for first in sorted(steps, reverse=True) if is_of_owner(roll, first)]
    while waiting:
        chain = waiting.pop()
        if chain[-1] == grant:
            yield chain
        else:
            for later in reversed(steps[chain[-1]]):
                waiting.append(chain + [later])


def chain_count(roll, grant):
    """How many chains the grant has."""
    need_grant(roll, grant)
    many = {}
    for each in roll.grants:
        if is_of_owner(roll, each):
            many[each] = 1
        else:
            many[each] = sum([many[earlier] for earlier in many if backs(earlier, each)])
    return many[grant]


def why(roll, grant):
    """The least chain for the grant, or the grants that count if it is none of them."""
    for chain in chains(roll, grant):
        return ("chain", chain)
    return ("closed", counting_grants(roll))


def is_chain(roll, value):
    """Whether the value is a chain of grants of the roll, for its last grant."""
    if not isinstance(value, list) or len(value) == 0:
        return False
    if not all([entry in roll for entry in value]) or not is_of_owner(roll, value[0]):
        return False
    return all([backs(first, second) for first, second in zip(value, value[1:])])


def is_part(roll, value):
    """Whether the value is an ascending list of grants of the roll, none of them twice."""
    if not isinstance(value, list) or not all([entry in roll for entry in value]):
        return False
    return is_ascending(value)


def is_closed(roll, part):
    """Whether the list of grants of the roll is a closed set."""
    forced = [grant for grant in roll.grants if counts_beside(roll.owners, part, grant)]
    return all([grant in part for grant in forced])


def shows(roll, grant, value):
    """Whether the value is what why may return: any chain, or any closed set without the grant."""
    need_grant(roll, grant)
    if not isinstance(value, tuple) or len(value) != 2:
        return False
    word, listed = value
    if word == "chain":
        return is_chain(roll, listed) and listed[-1] == grant
    if word == "closed":
        return is_part(roll, listed) and is_closed(roll, listed) and grant not in listed
    return False
