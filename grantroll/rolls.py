"""Rolls: owners and grants. A roll never changes."""

from grantroll.errors import InvalidGrants, InvalidRoll, InvalidText, OtherOwners, UnknownGrant
from grantroll.grants import GIVER, TAKER, grant_error
from grantroll.texts import grant_line, line_words, owners_line, read_grant
from grantroll.plain import is_name

MOST_OWNERS = 4


class Roll:
    """A roll with these owners and grants; InvalidRoll(reason) if there is no such roll."""

    MOST_GRANTS = 60

    def __init__(self, *owners, grants=()):
        reason = owners_error(owners)
        if reason is None:
            reason = grants_error(owners, grants)
        if reason is not None:
            raise InvalidRoll(reason)
        self._owners = tuple(sorted(owners))
        self._grants = tuple(sorted(grants))
        self._persons = persons_in(self._owners, self._grants)

    @property
    def owners(self):
        """The ascending tuple of the owners."""
        return self._owners

    @property
    def grants(self):
        """The ascending tuple of the grants."""
        return self._grants

    @property
    def persons(self):
        """The ascending tuple of all names in the grants that are not owners."""
        return self._persons

    def only(self, grants):
        """The roll with the same owners and these of its grants."""
        part = chosen_grants(self, grants)
        return Roll(*self._owners, grants=part)

    @classmethod
    def read(cls, text):
        """The roll with this text; InvalidText(row) with the first wrong row if there is none."""
        lines = text.split("\n")
        owners = read_owners(lines[0])
        grants = []
        for row, line in enumerate(lines[1:], start=1):
            grant = read_grant(line)
            if row > cls.MOST_GRANTS or not can_follow(owners, grants, grant):
                raise InvalidText(row)
            grants.append(grant)
        return cls(*owners, grants=grants)

    def __str__(self):
        return "\n".join([owners_line(self._owners)] + [grant_line(grant) for grant in self._grants])

    def __len__(self):
        return len(self._grants)

    def __contains__(self, value):
        # Without the first look, True would be found where the roll has 1.
        return grant_error(value) is None and value in self._grants

    def __eq__(self, other):
        return isinstance(other, Roll) and self._owners == other._owners and self._grants == other._grants

    def __or__(self, other):
        need_same_owners(self, other)
        added = [grant for grant in other._grants if grant not in self._grants]
        both = [*self._grants, *added]
        return Roll(*self._owners, grants=both)

    def __and__(self, other):
        need_same_owners(self, other)
        common = [grant for grant in self._grants if grant in other._grants]
        return Roll(*self._owners, grants=common)

    def __sub__(self, other):
        need_same_owners(self, other)
        rest = [grant for grant in self._grants if grant not in other._grants]
        return Roll(*self._owners, grants=rest)


def owners_error(owners):
    """The first reason why these are not the owners of a roll, or None."""
    if not 1 <= len(owners) <= MOST_OWNERS:
        return ("owners",)
    for k, owner in enumerate(owners):
        if not is_name(owner) or owner in owners[:k]:
            return ("owner", k)
    return None


def grants_error(owners, grants):
    """The first reason why there is no roll of these owners with these grants, or None."""
    if not isinstance(grants, (list, tuple)) or len(grants) > Roll.MOST_GRANTS:
        return ("grants",)
    for k, grant in enumerate(grants):
        reason = grant_error(grant)
        if reason is not None:
            return ("grant", k, reason)
        if grant[TAKER] in owners:
            return ("owned", k)
        if grant in grants[:k]:
            return ("repeated", k)
    return None


def persons_in(owners, grants):
    """The ascending tuple of the names in the grants that are not owners."""
    names = {}
    for grant in grants:
        names[grant[GIVER]] = True
        names[grant[TAKER]] = True
    return tuple(sorted([name for name in names if name not in owners]))


def read_owners(line):
    """The owners in the first line of a text; InvalidText(0) if it is not such a line."""
    words = line_words(line)
    owners = words[1:]
    if words[0] != "owners" or owners_error(owners) is not None or owners != sorted(owners):
        raise InvalidText(0)
    return owners


def can_follow(owners, grants, grant):
    """Whether the grant, or None for a wrong line, can stand behind these grants in a text."""
    if grant is None or grant[TAKER] in owners:
        return False
    return not grants or grants[-1] < grant


def chosen_grants(roll, grants):
    """The ascending list of the given grants of the roll, each once; an error if they are not such."""
    if not isinstance(grants, (list, tuple)):
        raise InvalidGrants("the grants are not a list or tuple")
    chosen = {}
    for grant in grants:
        need_grant(roll, grant)
        chosen[grant] = True
    return sorted(chosen)


def need_grant(roll, grant):
    """Raises UnknownGrant if this is not a grant of the roll."""
    if grant not in roll:
        raise UnknownGrant(grant)


def need_same_owners(one, other):
    """Raises OtherOwners if the two rolls have different owners."""
    if one.owners != other.owners:
        raise OtherOwners("the rolls have different owners")
