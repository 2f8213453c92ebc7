"""On which grants another one hangs: those that are in every chain for it."""

from grantroll.counting import counting_grants, counts, is_of_owner
from grantroll.errors import NotCounting
from grantroll.grants import TAKER, TIME, backs


def need_counting(roll, grant):
    """Raises UnknownGrant if this is not a grant of the roll, then NotCounting if it does not count."""
    if not counts(roll, grant):
        raise NotCounting(grant)


def in_all(lists):
    """What is in all of these lists, in the order of the first one."""
    if not lists:
        return []
    return [entry for entry in lists[0] if all([entry in other for other in lists])]


def hanging_lists(roll):
    """A dict that has, for each grant that counts, in ascending order, the list of those on which it hangs."""
    lists = {}
    for grant in counting_grants(roll):
        # What supports a grant has a smaller time, so its list is there. Nothing supports a grant of an owner.
        before = [lists[earlier] for earlier in lists if backs(earlier, grant)]
        lists[grant] = in_all(before) + [grant]
    return lists


def last_others(lists):
    """The tree of these lists: for each grant the last other one in its list, or None."""
    return {grant: hung[-2] if len(hung) > 1 else None for grant, hung in lists.items()}


def hanging(roll, grant):
    """The grants that are in every chain for the grant, in the order in which every chain has them."""
    need_counting(roll, grant)
    return hanging_lists(roll)[grant]


def hanging_tree(roll):
    """A dict that has, for each grant that counts, the last other grant on which it hangs, or None."""
    return last_others(hanging_lists(roll))


def hanging_paper(roll):
    """The tree, and two dicts that give each grant two chains with only those grants in common that they must."""
    lists = hanging_lists(roll)
    tree = last_others(lists)
    first = {}
    second = {}
    rows = {None: []}
    for grant, above in tree.items():
        rows[grant] = []
        row = rows[above]
        before = [earlier for earlier in first if backs(earlier, grant)]
        if not before or above in before:
            first[grant] = above
            second[grant] = above
            row.append(grant)
        else:
            # In its row the grant stands between a member that leads to it and another one that does. The first
            # chains come from the front and the second ones from behind, so they meet only above the row.
            depth = len(lists[grant]) - 1
            places = [row.index(lists[earlier][depth]) for earlier in before]
            first[grant] = before[places.index(min(places))]
            second[grant] = before[places.index(max(places))]
            row.insert(min(places) + 1, grant)
    return (tree, first, second)


def check_hanging(roll, paper):
    """None if the value is a right hanging paper, or else the first thing that is wrong."""
    held = roll.only(counting_grants(roll))
    if not is_paper(held, paper):
        return ("paper",)
    tree, first, second = paper
    for grant in held.grants:
        # Every earlier grant has passed all four looks, so climbing from it comes to an end.
        if not tells_common(held, tree, grant):
            return ("tree", grant)
        if not tells_supporter(held, first, grant):
            return ("first", grant)
        if not tells_supporter(held, second, grant):
            return ("second", grant)
        both = in_all([climb(first, grant), climb(second, grant)])
        above = climb(tree, grant)
        if not all([each in above for each in both]):
            return ("common", grant)
    return None


def is_paper(held, paper):
    """Whether the value is a tuple of three dicts, each with just the grants of the roll as its keys."""
    if not isinstance(paper, tuple) or len(paper) != 3:
        return False
    return all([has_just(held, links) for links in paper])


def has_just(held, links):
    """Whether the value is a dict with just the grants of the roll as its keys."""
    return isinstance(links, dict) and len(links) == len(held) and all([key in held for key in links])


def climb(links, grant):
    """The grant, what the dict has for it, what the dict has for that, and so on up to None."""
    way = []
    while grant is not None:
        way.append(grant)
        grant = links[grant]
    return way


def tells_common(held, tree, grant):
    """Whether the tree has None for the grant, or a grant that is in every chain for it; all of the roll count."""
    value = tree[grant]
    if value is None:
        return True
    if is_of_owner(held, grant) or value not in held or value[TIME] >= grant[TIME]:
        return False
    return all([value in climb(tree, earlier) for earlier in held.grants if backs(earlier, grant)])


def tells_supporter(held, links, grant):
    """Whether the dict has a supporter for the grant, or None for a grant of an owner; all of the roll count."""
    value = links[grant]
    if is_of_owner(held, grant):
        return value is None
    return value in held and backs(value, grant)


def hanging_persons(roll, grant):
    """The ascending names of the persons to whom every chain for the grant has a grant before its end."""
    need_counting(roll, grant)
    return [name for name in roll.persons if not counts_past(roll, grant, name)]


def counts_past(roll, grant, name):
    """Whether the grant counts without the other grants to this person."""
    rest = [each for each in roll.grants if each == grant or each[TAKER] != name]
    return counts(roll.only(rest), grant)
