"""The ledger: a roll in which every grant counts, and the deeds that led to it."""

from grantroll.counting import counts_beside
from grantroll.errors import (InvalidDeed, InvalidDeeds, InvalidGrant, NotCounting, NothingToRedo, NothingToUndo,
                              OwnerLeaves)
from grantroll.grants import GIVER, TAKER, grant_error
from grantroll.plain import need_name
from grantroll.revoking import without
from grantroll.rolls import Roll

# The words of the deeds that can be attempted, each with the number of the entries.
DEEDS = (("give", 5), ("revoke", 2), ("leave", 2))


class Ledger:
    """A ledger with these owners; InvalidRoll(reason) if there is no roll with them."""

    def __init__(self, *owners):
        self._roll = Roll(*owners)
        self._now = 0
        # Deeds that are done, each with the roll before it, and undone ones, each with the roll after it.
        self._done = []
        self._undone = []

    @property
    def now(self):
        """The clock."""
        return self._now

    @property
    def roll(self):
        """The roll that the ledger holds."""
        return self._roll

    @property
    def log(self):
        """The tuple of the deeds that were done and not undone."""
        return tuple([deed for deed, _ in self._done])

    def give(self, giver, taker, level, passes):
        """Adds the grant with these entries at the next time, and returns it."""
        return self._do(("give", giver, taker, level, passes))

    def revoke(self, grant):
        """Takes the grant out, with all that no longer count; returns their ascending list."""
        return self._do(("revoke", grant))

    def leave(self, name):
        """Takes out all grants of and to the person, with all that no longer count; returns their ascending list."""
        return self._do(("leave", name))

    def back(self):
        """Undoes the last deed that is done and not undone."""
        if not self._done:
            raise NothingToUndo("no deed can be undone")
        deed, before = self._done.pop()
        self._undone.append((deed, self._roll))
        self._roll = before
        self._now += 1

    def again(self):
        """Does once more the deed that was undone last and is still undone."""
        if not self._undone:
            raise NothingToRedo("no deed can be done once more")
        deed, after = self._undone.pop()
        self._done.append((deed, self._roll))
        self._roll = after
        self._now += 1

    def attempt(self, deeds):
        """Does all of the deeds, as one, or none; returns the list of what they return."""
        if not isinstance(deeds, (list, tuple)):
            raise InvalidDeeds("the deeds are not a list or tuple")
        # Nothing of the ledger changes before the last deed was possible.
        after = self._roll
        answers = []
        for k, deed in enumerate(deeds):
            if not is_deed(deed):
                raise InvalidDeed(k)
            answer, after = outcome(after, self._now + 1 + k, deed)
            answers.append(answer)
        if answers:
            self._note(("attempt", len(answers)), after, len(answers))
        return answers

    def _do(self, deed):
        """Does a deed that can also be attempted, by itself; returns what it returns."""
        answer, after = outcome(self._roll, self._now + 1, deed)
        # The log has the whole grant that was given, with its time.
        self._note(("give", answer) if deed[0] == "give" else deed, after, 1)
        return answer

    def _note(self, deed, after, ticks):
        """Takes the deed as done; it led to this roll, and took so many ticks of the clock."""
        self._done.append((deed, self._roll))
        self._undone = []
        self._roll = after
        self._now += ticks


def is_deed(value):
    """Whether the value is a tuple with the word of a deed first, and with so many entries."""
    return isinstance(value, tuple) and len(value) > 0 and (value[0], len(value)) in DEEDS


def outcome(roll, time, deed):
    """What the deed returns if it is done to the roll at this time, and the roll after it."""
    if deed[0] == "give":
        grant = (time, *deed[1:])
        return (grant, with_grant(roll, grant))
    if deed[0] == "revoke":
        after = without(roll, [deed[1]])
    else:
        after = without_person(roll, deed[1])
    return (list((roll - after).grants), after)


def with_grant(roll, grant):
    """The roll with this grant too; the first error that applies if it cannot be given."""
    reason = grant_error(grant)
    if reason is not None:
        raise InvalidGrant(reason)
    owners = roll.owners
    # Raises InvalidRoll(("owned", 0)) if the taker is an owner, as the last line does if there are too many grants.
    alone = Roll(*owners, grants=[grant])
    if not counts_beside(owners, roll.grants, grant):
        raise NotCounting(grant)
    return roll | alone


def without_person(roll, name):
    """The roll without the grants of and to this person, and without those that no longer count."""
    need_name(name)
    if name in roll.owners:
        raise OwnerLeaves("an owner cannot leave")
    return without(roll, [grant for grant in roll.grants if name in (grant[GIVER], grant[TAKER])])
