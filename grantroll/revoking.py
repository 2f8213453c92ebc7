"""Revoking: what remains of a roll when grants are taken out, and what is lost."""

from grantroll.counting import counting_grants, counts_beside
from grantroll.powers import covers, top_powers
from grantroll.rolls import chosen_grants


def without(roll, grants):
    """The roll of the grants that count when these are taken out."""
    taken = chosen_grants(roll, grants)
    rest = roll.only([grant for grant in roll.grants if grant not in taken])
    return rest.only(counting_grants(rest))


def shortest(roll, grants):
    """The least of all lists of grants that lead to the same roll as taking out these, in ascending order."""
    left = without(roll, grants).grants
    # What they support counts in the roll too; the others are gone anyway, or were never there.
    return [grant for grant in chosen_grants(roll, grants) if counts_beside(roll.owners, left, grant)]


def lost_by(roll, grants):
    """The ascending list of the other grants that count, and do not count when these are taken out."""
    gone = [*without(roll, grants).grants, *chosen_grants(roll, grants)]
    return [grant for grant in counting_grants(roll) if grant not in gone]


def lost_powers(roll, grants):
    """The ascending list of the (person, level, passes) that nothing covers when the grants are taken out."""
    left = without(roll, grants).grants
    held = counting_grants(roll)
    lost = []
    for name in roll.persons:
        kept = top_powers(left, name, None)
        for power in top_powers(held, name, None):
            if not any([covers(other, power) for other in kept]):
                lost.append((name, *power))
    return lost
