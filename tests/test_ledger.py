import random
import unittest

from grantroll.errors import (GrantrollError, InvalidDeed, InvalidDeeds, InvalidGrant, InvalidName, InvalidRoll,
                              NotCounting, NothingToRedo, NothingToUndo, OwnerLeaves, UnknownGrant)
from grantroll.grants import grant_error
from grantroll.ledger import Ledger
from grantroll.rolls import Roll
from tests.samples import NOT_LISTS, NOT_NAMES, ODD_VALUES, check_error, deep_value, person, plainly_counting

FIRST = (1, 'ann', 'bo', 5, 3)
SECOND = (2, 'bo', 'cy', 4, 2)
THIRD = (3, 'ann', 'cy', 2, 2)
FOURTH = (4, 'cy', 'di', 2, 1)
ALL = (FIRST, SECOND, THIRD, FOURTH)
GIVEN = tuple(('give', grant) for grant in ALL)
GIVES = [('give',) + grant[1:] for grant in ALL]


def filled():
    ledger = Ledger('ann')
    for grant in ALL:
        ledger.give(*grant[1:])
    return ledger


def full(many=60):
    """A ledger with so many grants of the owner."""
    ledger = Ledger('ann')
    for k in range(many):
        ledger.give('ann', person(k % 26), 1, 1)
    return ledger


def state(ledger):
    """What can be seen of a ledger."""
    return ledger.now, ledger.roll, ledger.log


def whole_state(ledger):
    """What can be seen of a ledger, and all that it can undo or do once more; the ledger is used up by this."""
    seen = [state(ledger)]
    for step in (ledger.again, ledger.back):
        try:
            while True:
                step()
                seen.append(state(ledger))
        except (NothingToRedo, NothingToUndo):
            seen.append('no more')
    return seen


class PlainLedger:
    """Deeds over plain lists, as the document tells of them; every deed keeps all that was before it."""

    def __init__(self, owner):
        self.owner = owner
        self.now = 0
        self.held = []
        self.log = []
        self.befores = []
        self.undone = []

    def note(self, deed, held):
        self.befores.append((self.held, self.log))
        self.held, self.log = held, self.log + [deed]
        self.undone = []
        self.now += 1

    def give(self, *entries):
        grant = (self.now + 1, *entries)
        if grant_error(grant) or entries[1] == self.owner or len(self.held) == 60:
            return None
        if grant not in plainly_counting([self.owner], self.held + [grant]):
            return None
        self.note(('give', grant), self.held + [grant])
        return grant

    def take(self, deed, gone):
        left = plainly_counting([self.owner], [grant for grant in self.held if grant not in gone])
        lost = [grant for grant in self.held if grant not in left]
        self.note(deed, left)
        return lost

    def revoke(self, grant):
        return self.take(('revoke', grant), [grant]) if grant in self.held else None

    def leave(self, name):
        if name == self.owner:
            return None
        return self.take(('leave', name), [grant for grant in self.held if name in grant[1:3]])

    def back(self):
        if not self.befores:
            return None
        self.undone.append((self.held, self.log))
        self.held, self.log = self.befores.pop()
        self.now += 1
        return 'done'

    def again(self):
        if not self.undone:
            return None
        self.befores.append((self.held, self.log))
        self.held, self.log = self.undone.pop()
        self.now += 1
        return 'done'

    def attempt(self, deeds):
        if not deeds:
            return []
        trial = PlainLedger(self.owner)
        trial.now, trial.held = self.now, self.held
        answers = [getattr(trial, word)(*entries) for word, *entries in deeds]
        # The deeds behind one that cannot be done make no difference.
        if None in answers:
            return None
        self.note(('attempt', len(deeds)), trial.held)
        self.now += len(deeds) - 1
        return answers


def random_deed(chance, roll):
    names = ['ann', 'bo', 'cy', 'di', 'ed']
    word = chance.choice(['give'] * 5 + ['revoke', 'revoke', 'leave'])
    if word == 'give':
        giver, taker = chance.choice(names[:1] * 3 + names), chance.choice(names[1:] * 3 + names[:1])
        return ('give', giver, taker, chance.randint(1, 4), chance.randint(0, 4))
    if word == 'revoke':
        known = list(roll.grants) or [FIRST]
        return ('revoke', chance.choice(known + known + [SECOND, (1, 'ann', 'bo', 1, 1)]))
    return ('leave', chance.choice(names[1:] * 2 + names[:1]))


class StartTest(unittest.TestCase):
    def test_a_new_ledger(self):
        ledger = Ledger('zoe', 'ann')
        self.assertEqual(state(ledger), (0, Roll('ann', 'zoe'), ()))
        self.assertIs(type(ledger.log), tuple)
        self.assertIs(type(ledger.now), int)

    def test_owners(self):
        for owners, reason in [((), ('owners',)), (('ann', 'bo', 'cy', 'di', 'ed'), ('owners',)),
                               (('ann', 'ann'), ('owner', 1)), (('ann', 'Bo'), ('owner', 1)), ((None,), ('owner', 0)),
                               (('ann', deep_value()), ('owner', 1)), ((True, 'ann'), ('owner', 0))]:
            with self.assertRaises(InvalidRoll) as caught:
                Ledger(*owners)
            self.assertEqual(caught.exception.reason, reason)
        self.assertEqual(len(Ledger('di', 'cy', 'bo', 'ann').roll.owners), 4)


class GiveTest(unittest.TestCase):
    def test_grants_at_the_next_time(self):
        ledger = Ledger('ann')
        self.assertEqual(ledger.give('ann', 'bo', 5, 3), FIRST)
        self.assertEqual(state(ledger), (1, Roll('ann', grants=[FIRST]), (('give', FIRST),)))
        self.assertEqual(ledger.give('bo', 'cy', 4, 2), SECOND)
        self.assertEqual(state(filled()), (4, Roll('ann', grants=ALL), GIVEN))
        ledger.back()
        self.assertEqual(ledger.give('bo', 'cy', 4, 2), (4, 'bo', 'cy', 4, 2))

    def check_fails(self, ledger, error, entries):
        before = state(ledger)
        with self.assertRaises(error) as caught:
            ledger.give(*entries)
        self.assertIs(type(caught.exception), error)
        self.assertEqual(state(ledger), before)
        return caught.exception

    def test_no_grant(self):
        for entries, word in [((None, 'bo', 1, 1), 'giver'), (('ann', 'Bo', 1, 1), 'taker'),
                              (('ann', 'ann', 1, 1), 'same'), (('ann', 'bo', 0, 1), 'level'),
                              (('ann', 'bo', True, 1), 'level'), (('ann', 'bo', 10, 1), 'level'),
                              (('ann', 'bo', 1, 21), 'passes'), (('ann', 'bo', 1, False), 'passes'),
                              (('ann', 'bo', 1, None), 'passes'), (('bo', 'bo', 0, -1), 'same'),
                              ((deep_value(), deep_value(), [], {}), 'giver'), (('bo', [], [], []), 'taker')]:
            self.assertEqual(self.check_fails(filled(), InvalidGrant, entries).reason, (word,))

    def test_to_an_owner(self):
        for giver in ['bo', 'zoe', 'di']:
            self.assertEqual(self.check_fails(filled(), InvalidRoll, (giver, 'ann', 1, 1)).reason, ('owned', 0))
        two = Ledger('ann', 'bo')
        self.assertEqual(self.check_fails(two, InvalidRoll, ('ann', 'bo', 1, 1)).reason, ('owned', 0))

    def test_grants_that_would_not_count(self):
        for entries in [('zoe', 'bo', 1, 0), ('di', 'ed', 2, 1), ('di', 'ed', 3, 0), ('cy', 'ed', 4, 2),
                        ('bo', 'ed', 6, 0), ('ed', 'bo', 1, 0)]:
            self.assertEqual(self.check_fails(filled(), NotCounting, entries).grant, (5, *entries))
        self.assertEqual(filled().give('di', 'ed', 2, 0), (5, 'di', 'ed', 2, 0))
        self.assertEqual(filled().give('cy', 'ed', 4, 1), (5, 'cy', 'ed', 4, 1))

    def test_sixty_grants_and_one_more(self):
        ledger = full(59)
        ledger.give('ann', 'zoe', 1, 1)
        self.assertEqual([len(ledger.roll), ledger.now, len(ledger.log)], [60, 60, 60])
        self.assertEqual(self.check_fails(ledger, InvalidRoll, ('ann', 'bo', 1, 1)).reason, ('grants',))
        self.assertEqual(self.check_fails(ledger, InvalidRoll, ('zoe', 'bo', 1, 0)).reason, ('grants',))
        ledger.revoke((60, 'ann', 'zoe', 1, 1))
        self.assertEqual(ledger.give('ann', 'bo', 1, 1), (62, 'ann', 'bo', 1, 1))

    def test_the_order_of_errors(self):
        for ledger in [filled(), full()]:
            self.assertEqual(self.check_fails(ledger, InvalidGrant, ('zoe', 'ann', 1, 21)).reason, ('passes',))
            self.assertEqual(self.check_fails(ledger, InvalidGrant, ('ann', 'ann', 1, 1)).reason, ('same',))
            self.assertEqual(self.check_fails(ledger, InvalidRoll, ('nobody', 'ann', 9, 20)).reason, ('owned', 0))
            grant = (ledger.now + 1, 'nobody', 'zoe', 1, 1)
            self.assertEqual(self.check_fails(ledger, NotCounting, grant[1:]).grant, grant)


class RevokeTest(unittest.TestCase):
    def test_with_all_that_no_longer_count(self):
        ledger = filled()
        self.assertEqual(ledger.revoke(FIRST), [FIRST, SECOND])
        self.assertEqual(state(ledger), (5, Roll('ann', grants=[THIRD, FOURTH]), GIVEN + (('revoke', FIRST),)))
        self.assertEqual(ledger.revoke(THIRD), [THIRD, FOURTH])
        self.assertEqual([len(ledger.roll), ledger.now, ledger.log[-1]], [0, 6, ('revoke', THIRD)])
        self.assertEqual(filled().revoke(THIRD), [THIRD])
        self.assertEqual(filled().revoke(FOURTH), [FOURTH])

    def test_unknown_grants(self):
        ledger = filled()
        ledger.revoke(FOURTH)
        before = state(ledger)
        for value in ODD_VALUES + [deep_value(), FOURTH, list(FIRST), (True,) + FIRST[1:], (2, 'ann', 'bo', 5, 3)]:
            with self.assertRaises(UnknownGrant) as caught:
                ledger.revoke(value)
            self.assertIs(caught.exception.grant, value)
            self.assertEqual(state(ledger), before)


class LeaveTest(unittest.TestCase):
    def test_grants_of_and_to_the_person(self):
        ledger = filled()
        self.assertEqual(ledger.leave('cy'), [SECOND, THIRD, FOURTH])
        self.assertEqual(state(ledger), (5, Roll('ann', grants=[FIRST]), GIVEN + (('leave', 'cy'),)))
        self.assertEqual(filled().leave('bo'), [FIRST, SECOND])
        self.assertEqual(filled().leave('di'), [FOURTH])

    def test_with_all_that_no_longer_count(self):
        ledger = Ledger('ann')
        grants = [ledger.give(*entries) for entries in [('ann', 'bo', 1, 5), ('bo', 'cy', 1, 4), ('cy', 'di', 1, 3)]]
        self.assertEqual(ledger.leave('bo'), grants)

    def test_a_leave_that_takes_nothing_out(self):
        ledger = filled()
        ledger.back()
        self.assertEqual(ledger.leave('nobody'), [])
        self.assertEqual(state(ledger), (6, Roll('ann', grants=ALL[:3]), GIVEN[:3] + (('leave', 'nobody'),)))
        check_error(self, NothingToRedo, [ledger.again])
        ledger.back()
        self.assertEqual(state(ledger), (7, Roll('ann', grants=ALL[:3]), GIVEN[:3]))
        ledger.again()
        self.assertEqual(state(ledger), (8, Roll('ann', grants=ALL[:3]), GIVEN[:3] + (('leave', 'nobody'),)))
        self.assertEqual(ledger.leave('nobody'), [])
        self.assertEqual(ledger.log[3:], (('leave', 'nobody'),) * 2)

    def test_errors(self):
        ledger = filled()
        before = state(ledger)
        check_error(self, InvalidName, [lambda: ledger.leave(value) for value in NOT_NAMES])
        check_error(self, OwnerLeaves, [lambda: ledger.leave('ann')])
        self.assertEqual(state(ledger), before)


class BackAndAgainTest(unittest.TestCase):
    def test_after_each_kind_of_deed(self):
        for deed in [lambda ledger: ledger.give('ann', 'ed', 1, 1), lambda ledger: ledger.revoke(FIRST),
                     lambda ledger: ledger.leave('cy'), lambda ledger: ledger.leave('nobody'),
                     lambda ledger: ledger.attempt([('revoke', SECOND), ('leave', 'di')])]:
            ledger = filled()
            before = state(ledger)
            deed(ledger)
            after = state(ledger)
            for step in range(0, 6, 2):
                self.assertIsNone(ledger.back())
                self.assertEqual(state(ledger), (after[0] + step + 1, *before[1:]))
                self.assertIsNone(ledger.again())
                self.assertEqual(state(ledger), (after[0] + step + 2, *after[1:]))
            check_error(self, NothingToRedo, [ledger.again] * 2)

    def test_several_in_a_row(self):
        ledger = filled()
        for many in (3, 2, 1, 0):
            ledger.back()
            self.assertEqual(state(ledger), (8 - many, Roll('ann', grants=ALL[:many]), GIVEN[:many]))
        check_error(self, NothingToUndo, [ledger.back] * 2)
        self.assertEqual(ledger.now, 8)
        for many in (1, 2, 3, 4):
            ledger.again()
            self.assertEqual(state(ledger), (8 + many, Roll('ann', grants=ALL[:many]), GIVEN[:many]))
        check_error(self, NothingToRedo, [ledger.again] * 2)
        self.assertEqual(ledger.now, 12)

    def test_nothing_was_done(self):
        ledger = Ledger('ann')
        check_error(self, NothingToUndo, [ledger.back] * 2)
        check_error(self, NothingToRedo, [ledger.again] * 2)
        self.assertEqual(state(ledger), (0, Roll('ann'), ()))

    def test_a_new_deed_ends_what_could_be_done_once_more(self):
        for deed in [lambda ledger: ledger.give('ann', 'ed', 1, 1), lambda ledger: ledger.revoke(FIRST),
                     lambda ledger: ledger.leave('ed'), lambda ledger: ledger.attempt((('leave', 'ed'),))]:
            ledger = filled()
            ledger.back()
            ledger.back()
            deed(ledger)
            check_error(self, NothingToRedo, [ledger.again])
            # Only the new deed is there to be done once more.
            ledger.back()
            ledger.again()
            check_error(self, NothingToRedo, [ledger.again])
            self.assertEqual(len(ledger.log), 3)

    def test_what_fails_ends_nothing(self):
        for call in [lambda ledger: ledger.give('zoe', 'ed', 1, 1), lambda ledger: ledger.revoke(FOURTH),
                     lambda ledger: ledger.leave('ann'), lambda ledger: ledger.attempt(None),
                     lambda ledger: ledger.attempt([('leave', 'bo'), None]), lambda ledger: ledger.attempt([])]:
            ledger = filled()
            ledger.back()
            try:
                call(ledger)
            except GrantrollError:
                pass
            ledger.again()
            self.assertEqual(state(ledger), (6, Roll('ann', grants=ALL), GIVEN))

    def test_the_grant_has_its_old_time_again(self):
        ledger = filled()
        ledger.revoke(FIRST)
        ledger.back()
        self.assertEqual(ledger.roll.grants, ALL)
        ledger.give('ann', 'bo', 5, 3)
        self.assertEqual(ledger.log[-1], ('give', (7, 'ann', 'bo', 5, 3)))


class AttemptTest(unittest.TestCase):
    def test_all_of_the_deeds(self):
        ledger = Ledger('ann')
        answers = ledger.attempt(GIVES + [('revoke', FIRST), ('leave', 'di'), ('leave', 'nobody')])
        self.assertEqual(answers, [*ALL, [FIRST, SECOND], [FOURTH], []])
        self.assertEqual(state(ledger), (7, Roll('ann', grants=[THIRD]), (('attempt', 7),)))
        self.assertEqual(ledger.attempt(tuple(GIVES[:1])), [(8, 'ann', 'bo', 5, 3)])
        self.assertEqual(ledger.log, (('attempt', 7), ('attempt', 1)))

    def test_one_deed_for_back_and_again(self):
        ledger = filled()
        ledger.attempt([('revoke', FIRST), ('give', 'ann', 'ed', 1, 1), ('leave', 'cy')])
        self.assertEqual(ledger.now, 7)
        after = state(ledger)
        ledger.back()
        self.assertEqual(state(ledger), (8, Roll('ann', grants=ALL), GIVEN))
        ledger.again()
        self.assertEqual(state(ledger), (9, *after[1:]))
        ledger.back()
        ledger.back()
        self.assertEqual(state(ledger), (11, Roll('ann', grants=ALL[:3]), GIVEN[:3]))
        ledger.again()
        ledger.again()
        self.assertEqual(state(ledger), (13, *after[1:]))

    def test_no_deeds(self):
        for deeds in ([], ()):
            for steps in range(3):
                ledgers = [filled(), filled()]
                for ledger in ledgers:
                    for _ in range(steps):
                        ledger.back()
                self.assertEqual(ledgers[0].attempt(deeds), [])
                self.assertEqual(whole_state(ledgers[0]), whole_state(ledgers[1]))

    def check_fails(self, deeds, error):
        """The attempt raises this error, and changes nothing; it returns the error."""
        ledgers = [filled(), filled()]
        for ledger in ledgers:
            ledger.revoke(THIRD)
            ledger.back()
            ledger.back()
        before = state(ledgers[0])
        with self.assertRaises(error) as caught:
            ledgers[0].attempt(deeds)
        self.assertIs(type(caught.exception), error)
        self.assertEqual(state(ledgers[0]), before)
        self.assertEqual(whole_state(ledgers[0]), whole_state(ledgers[1]))
        return caught.exception

    def test_deeds_that_raise_at_the_first_a_middle_and_the_last_place(self):
        right = [('leave', 'cy'), ('give', 'ann', 'ed', 3, 3), ('give', 'ed', 'fy', 2, 2)]
        wrong = [(('give', 'zoe', 'ed', 1, 1), NotCounting), (('give', 'ann', 'ann', 1, 1), InvalidGrant),
                 (('give', 'bo', 'ann', 1, 1), InvalidRoll), (('revoke', FOURTH), UnknownGrant),
                 (('revoke', None), UnknownGrant), (('leave', 'ann'), OwnerLeaves), (('leave', 7), InvalidName),
                 (('leave', deep_value()), InvalidName), (('give', [], {}, None, ()), InvalidGrant),
                 (None, InvalidDeed), (('attempt', []), InvalidDeed)]
        for deed, error in wrong:
            for k in range(4):
                deeds = right[:k] + [deed] + right[k:]
                raised = self.check_fails(deeds, error)
                if error is InvalidDeed:
                    self.assertEqual(raised.number, k)
                if error is NotCounting:
                    # The clock goes on during the attempt.
                    self.assertEqual(raised.grant, (8 + k, 'zoe', 'ed', 1, 1))
                self.check_fails(tuple(deeds), error)

    def test_what_the_errors_store(self):
        self.assertEqual(self.check_fails([('give', 'ann', 'ann', 1, 1)], InvalidGrant).reason, ('same',))
        self.assertEqual(self.check_fails([('give', 'cy', 'ann', 1, 1)], InvalidRoll).reason, ('owned', 0))
        value = deep_value()
        self.assertIs(self.check_fails([('leave', 'bo'), ('revoke', value)], UnknownGrant).grant, value)
        # What an earlier deed took out is no longer there.
        self.assertEqual(self.check_fails([('revoke', FIRST), ('revoke', SECOND)], UnknownGrant).grant, SECOND)
        self.assertEqual(self.check_fails([('leave', 'cy'), ('give', 'cy', 'di', 1, 0)], NotCounting).grant,
                         (9, 'cy', 'di', 1, 0))

    def test_the_first_wrong_deed(self):
        self.check_fails([('leave', 'ann'), None], OwnerLeaves)
        self.assertEqual(self.check_fails([None, ('leave', 'ann')], InvalidDeed).number, 0)
        self.check_fails([('leave', 'bo'), ('revoke', FIRST), ()], UnknownGrant)

    def test_deeds_of_other_forms(self):
        forms = [('give', 'ann', 'bo', 1), ('give', 'ann', 'bo', 1, 1, 1), ('give', FIRST), ('revoke',),
                 ('revoke', FIRST, 1), ('leave',), ('leave', 'bo', 'cy'), ('back',), ('again',), ('attempt', []),
                 ['leave', 'bo'], ['give', 'ann', 'bo', 1, 1], ('Leave', 'bo'), (None, 'bo'), (('leave',), 'bo'),
                 (['leave'], 'bo'), (True, 'bo'), ({}, 'bo'), ('take', 'bo'), 'leave', (('leave', 'bo'),), ('', ''),
                 ('give', 'bo'), ('leave', 'ann', 'bo', 1, 1), (5, 'give'), FIRST, GIVES]
        for value in forms + ODD_VALUES + [deep_value()]:
            self.assertEqual(self.check_fails([value], InvalidDeed).number, 0)
            self.assertEqual(self.check_fails([('leave', 'di'), ('leave', 'bo'), value], InvalidDeed).number, 2)

    def test_no_list_of_deeds(self):
        for value in NOT_LISTS + [set(), 'leave', {('leave', 'bo'): 1}]:
            self.check_fails(value, InvalidDeeds)
        self.check_fails(('leave', 'bo'), InvalidDeed)

    def test_sixty_grants_and_one_more(self):
        ledger = Ledger('ann')
        deeds = [('give', 'ann', person(k % 26), 1, 1) for k in range(60)]
        with self.assertRaises(InvalidRoll) as caught:
            ledger.attempt(deeds + [('give', 'ann', 'bo', 1, 1)])
        self.assertEqual(caught.exception.reason, ('grants',))
        self.assertEqual(state(ledger), (0, Roll('ann'), ()))
        ledger.attempt(deeds)
        self.assertEqual([len(ledger.roll), ledger.now, ledger.log], [60, 60, (('attempt', 60),)])
        ledger.attempt([('revoke', (1, 'ann', person(0), 1, 1)), ('give', 'ann', 'bo', 1, 1)])
        self.assertEqual(ledger.roll.grants[-1], (62, 'ann', 'bo', 1, 1))

    def test_many_deeds(self):
        ledger = filled()
        self.assertEqual(ledger.attempt([('leave', 'nobody')] * 1600), [[]] * 1600)
        self.assertEqual([ledger.now, ledger.log[4:]], [1604, (('attempt', 1600),)])

    def test_the_deeds_are_not_changed(self):
        deeds = [('leave', 'cy'), ('give', 'ann', 'cy', 1, 1)]
        filled().attempt(deeds)
        self.assertEqual(deeds, [('leave', 'cy'), ('give', 'ann', 'cy', 1, 1)])


class AnswersTest(unittest.TestCase):
    def test_lists_that_are_changed_afterwards(self):
        ledger = filled()
        before = ledger.roll
        ledger.revoke(FIRST).clear()
        ledger.leave('nobody').append(None)
        answers = ledger.attempt([('leave', 'cy'), ('leave', 'cy'), ('give', 'ann', 'cy', 1, 1)])
        self.assertIsNot(answers[0], answers[1])
        answers[0].append(None)
        answers.clear()
        ledger.attempt([]).append(None)
        self.assertEqual(state(ledger), (9, Roll('ann', grants=[(9, 'ann', 'cy', 1, 1)]), GIVEN + (
            ('revoke', FIRST), ('leave', 'nobody'), ('attempt', 3))))
        for _ in range(3):
            ledger.back()
        self.assertEqual(ledger.roll, before)
        self.assertEqual(before, Roll('ann', grants=ALL))
        self.assertEqual(ledger.attempt([]), [])

    def test_two_ledgers_share_nothing(self):
        one, other = Ledger('ann'), Ledger('ann')
        one.give('ann', 'bo', 1, 1)
        self.assertEqual(state(other), (0, Roll('ann'), ()))
        check_error(self, NothingToUndo, [other.back])


class HistoryTest(unittest.TestCase):
    """Random deeds against a ledger of plain lists that keeps everything."""

    def compare(self, ledger, plain, call):
        try:
            answer = call(ledger)
        except GrantrollError:
            answer = None
        else:
            answer = 'done' if answer is None else answer
        self.assertEqual(answer, call(plain))
        self.assertEqual(state(ledger), (plain.now, Roll(plain.owner, grants=plain.held), tuple(plain.log)))
        self.assertEqual(plainly_counting([plain.owner], ledger.roll.grants), list(ledger.roll.grants))
        return answer

    def test_many_deeds(self):
        chance = random.Random(71)
        kinds = {}
        for _ in range(60):
            ledger, plain = Ledger('ann'), PlainLedger('ann')
            for _ in range(40):
                kind = chance.choice(['deed'] * 6 + ['back', 'back', 'again', 'again', 'attempt'])
                if kind in ('back', 'again'):
                    answer = self.compare(ledger, plain, lambda one: getattr(one, kind)())
                elif kind == 'attempt':
                    deeds = [random_deed(chance, ledger.roll) for _ in range(chance.randint(0, 3))]
                    answer = self.compare(ledger, plain, lambda one: one.attempt(deeds))
                else:
                    kind, *entries = random_deed(chance, ledger.roll)
                    answer = self.compare(ledger, plain, lambda one: getattr(one, kind)(*entries))
                kinds[kind, answer is None] = kinds.get((kind, answer is None), 0) + 1
        self.assertEqual(len(kinds), 12)
        self.assertGreater(min(kinds.values()), 5)


if __name__ == '__main__':
    unittest.main()
