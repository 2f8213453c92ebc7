"""The errors of the package. All are subclasses of GrantrollError, and of none of the others."""


class GrantrollError(ValueError):
    """The base class of all errors of this package."""


class InvalidDeeds(GrantrollError):
    """The deeds are not a list or tuple."""


class InvalidGrants(GrantrollError):
    """The grants are not a list or tuple (of grants, where this is asked)."""


class InvalidName(GrantrollError):
    """The value is not a name."""


class InvalidPower(GrantrollError):
    """The value is not a power."""


class InvalidTime(GrantrollError):
    """The value is not a time, or there is no such time."""


class NotStanding(GrantrollError):
    """The grants do not stand by themselves."""


class NothingToRedo(GrantrollError):
    """There is no undone deed that could be done once more."""


class NothingToUndo(GrantrollError):
    """There is no deed that could be undone."""


class OtherOwners(GrantrollError):
    """The two rolls have different owners."""


class OwnerLeaves(GrantrollError):
    """An owner cannot leave."""


class OwnerPower(GrantrollError):
    """An owner has every power, without grants."""


class InvalidCount(GrantrollError):
    """The count is not an integer from 0 on."""

    def __init__(self, count):
        super().__init__("not a count")
        self.count = count


class InvalidDeed(GrantrollError):
    """The deed with this number is not a deed."""

    def __init__(self, number):
        super().__init__("not a deed")
        self.number = number


class InvalidGrant(GrantrollError):
    """The value is not a grant, for this reason."""

    def __init__(self, reason):
        super().__init__("not a grant")
        self.reason = reason


class InvalidIndex(GrantrollError):
    """There is nothing with this index."""

    def __init__(self, index):
        super().__init__("not an index")
        self.index = index


class InvalidRoll(GrantrollError):
    """There is no such roll, for this reason."""

    def __init__(self, reason):
        super().__init__("not a roll")
        self.reason = reason


class InvalidText(GrantrollError):
    """The text is not the text of a roll; this row is the first wrong one."""

    def __init__(self, row):
        super().__init__("not the text of a roll")
        self.row = row


class KnownName(GrantrollError):
    """The name occurs already."""

    def __init__(self, name):
        super().__init__("a name that occurs already")
        self.name = name


class NotCounting(GrantrollError):
    """The grant does not count."""

    def __init__(self, grant):
        super().__init__("a grant that does not count")
        self.grant = grant


class TooMany(GrantrollError):
    """More grants count than can be looked at; count is their number."""

    def __init__(self, count):
        super().__init__("too many grants count")
        self.count = count


class UnknownGrant(GrantrollError):
    """The value is not a grant of the roll."""

    def __init__(self, grant):
        super().__init__("not a grant of the roll")
        self.grant = grant
