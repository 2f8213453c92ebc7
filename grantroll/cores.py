"""The core of a roll: the grants that change a power in some sub-history; and rolls that are alike under revoking."""

from grantroll.counting import counting_among, is_chain, is_closed, is_part, why
from grantroll.errors import InvalidGrants
from grantroll.grants import TAKER, TIME, grant_error
from grantroll.powers import difference
from grantroll.rolls import need_grant, need_same_owners

USEFUL = "useful"
IDLE = "idle"


def without_earlier(roll, grant):
    """The grants of the roll, ascending, but the earlier ones to the taker of this one."""
    return [each for each in roll.grants if each[TAKER] != grant[TAKER] or each[TIME] >= grant[TIME]]


def core(roll):
    """The ascending list of the useful grants: those that count without the earlier ones to their taker."""
    return [grant for grant in roll.grants if grant in counting_among(roll.owners, without_earlier(roll, grant))]


def useful_paper(roll, grant):
    """A chain for the grant that has no other one to its taker, or a closed list that shows that there is none."""
    need_grant(roll, grant)
    word, listed = why(roll.only(without_earlier(roll, grant)), grant)
    # Times rise along a chain, so it has none of the grants to the taker that were not left out.
    return (USEFUL if word == "chain" else IDLE, listed)


def check_useful(roll, grant, paper):
    """None if the value is a paper that useful_paper may return, or else the first thing that is wrong."""
    need_grant(roll, grant)
    if not isinstance(paper, tuple) or len(paper) != 2:
        return ("paper",)
    word, listed = paper
    if word not in (USEFUL, IDLE) or not isinstance(listed, list):
        return ("paper",)
    if word == USEFUL:
        return check_chain(roll, grant, listed)
    return check_closed(roll, grant, listed)


def check_chain(roll, grant, listed):
    """None if the list shows that the grant is useful, or else the first thing that is wrong."""
    if not is_chain(roll, listed) or listed[-1] != grant:
        return ("chain",)
    if any([earlier[TAKER] == grant[TAKER] for earlier in listed[:-1]]):
        return ("taker",)
    return None


def check_closed(roll, grant, listed):
    """None if the list shows that the grant is idle, or else the first thing that is wrong."""
    rest = roll.only(without_earlier(roll, grant))
    if not is_part(rest, listed) or not is_closed(rest, listed):
        return ("closed",)
    if grant in listed:
        return ("grant",)
    return None


def gives_no_more(one, other):
    """None if no sub-history of the one gives a power that the other's does not; else a list that separates them."""
    need_same_owners(one, other)
    for grant in core(one):
        if grant not in other:
            # In its sub-history of the other roll, nobody gives the taker anything.
            return useful_paper(one, grant)[1]
    return None


def same_under_revoking(one, other):
    """None if all powers are equal in every sub-history; else a list that separates the two rolls."""
    found = gives_no_more(one, other)
    if found is None:
        found = gives_no_more(other, one)
    return found


def alike_paper(one, other):
    """For each roll a list that shows of all its grants that the other lacks that they are idle; None if one is not."""
    need_same_owners(one, other)
    if core(one) != core(other):
        return None
    return (idle_papers(one, other), idle_papers(other, one))


def idle_papers(roll, other):
    """The list of tuples (grant, closed list for it) for the grants that the other roll lacks; all are idle."""
    return [(grant, useful_paper(roll, grant)[1]) for grant in (roll - other).grants]


def check_alike(one, other, paper):
    """None if the value is a paper that alike_paper may return for rolls that are alike, or else what is wrong."""
    need_same_owners(one, other)
    if not isinstance(paper, tuple) or len(paper) != 2 or not all([isinstance(part, list) for part in paper]):
        return ("paper",)
    mine = (one - other).grants
    theirs = (other - one).grants
    if len(paper[0]) != len(mine) or len(paper[1]) != len(theirs):
        return ("paper",)
    for word, roll, grants, listed in (("one", one, mine, paper[0]), ("other", other, theirs, paper[1])):
        for k, value in enumerate(listed):
            if not shows_idle(roll, grants[k], value):
                return (word, k)
    return None


def shows_idle(roll, grant, value):
    """Whether the value is a tuple of this grant of the roll and a closed list for it."""
    if not isinstance(value, tuple) or len(value) != 2:
        return False
    named, listed = value
    # Without the first look, a tuple that begins with True would be equal to a grant of time 1.
    return named in roll and named == grant and check_useful(roll, grant, (IDLE, listed)) is None


def separates(one, other, grants):
    """Whether somebody has different powers at some time in the sub-histories of the two rolls for these grants."""
    need_same_owners(one, other)
    if not isinstance(grants, (list, tuple)) or not all([grant_error(value) is None for value in grants]):
        raise InvalidGrants("not a list or tuple of grants")
    return difference(held_of(one, grants), held_of(other, grants)) is not None


def held_of(roll, grants):
    """The grants that count in the sub-history of the roll for these grants."""
    return counting_among(roll.owners, [grant for grant in roll.grants if grant in grants])
