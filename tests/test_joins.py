import random
import time
import unittest

from grantroll.counting import counting_grants
from grantroll.errors import InvalidName, InvalidTime, KnownName, OtherOwners
from grantroll.joins import adding_tells, always_tells, later_grant, same_always, same_under_adding
from grantroll.powers import powers_of
from grantroll.rolls import Roll
from tests.samples import (FOUR, HISTORY, NOT_NAMES, NOT_TIMES, ODD_VALUES, check_error, deep_value, four_roll,
                           history_roll, layered_roll, layers, pairs_of_rolls, person, plain_powers, plainly_counting,
                           plainly_supports)

BIG = 10 ** 30
PAIRS = pairs_of_rolls(100, 8, seed=61)


def padded_pairs(many, seed):
    """Pairs of different rolls with the same powers, also after anything that is added."""
    chance = random.Random(seed)
    pairs = []
    for one, other in pairs_of_rolls(many, 8, seed):
        whole = one | other
        pairs.append(tuple(whole | Roll(*whole.owners, grants=padding(whole, chance)) for _ in range(2)))
    return [pair for pair in pairs if pair[0] != pair[1]]


def padding(roll, chance):
    """Grants to who has their power before, and grants that cannot count."""
    found = {(chance.randint(0, 9), 'zoe', 'yo', 1, 20): True, (-BIG, 'zoe', 'yo', 1, chance.randint(0, 9)): True}
    for _, _, taker, level, passes in counting_grants(roll) * 2:
        later = (chance.randint(0, 9), chance.choice(['zoe', 'yo']), taker, max(1, level - chance.randint(0, 1)),
                 max(0, passes - chance.randint(0, 1)))
        powers = plain_powers(roll.owners, roll.grants, taker, later[0])
        if [power for power in powers if power[0] >= later[3] and power[1] >= later[4]] and chance.random() < 0.5:
            found[later] = True
    return list(found)


PADDED = padded_pairs(40, 62)


def differ(owners, mine, theirs, name, at):
    return plain_powers(owners, mine, name, at) != plain_powers(owners, theirs, name, at)


def with_added(roll, added):
    return sorted({*roll.grants, *added})


def adding_differs(one, other, added, name, at):
    return differ(one.owners, with_added(one, added), with_added(other, added), name, at)


def always_differs(one, other, added, left, name, at):
    sides = [[grant for grant in with_added(roll, added) if grant in left] for roll in (one, other)]
    return differ(one.owners, *sides, name, at)


def same_powers(one, other):
    """Whether all persons have the same powers at all times."""
    places = {(grant[2], each[0]) for grant in one.grants + other.grants for each in one.grants + other.grants}
    return not [place for place in places if adding_differs(one, other, [], *place)]


def can_count(owners, grant):
    return grant[1] in owners or (grant[4] <= 19 and grant[0] > -BIG)


def different_grants(one, other):
    """The grants that just one of the rolls has and that can count."""
    return sorted(grant for grant in {*one.grants} ^ {*other.grants} if can_count(one.owners, grant))


def has_its_power(roll, grant):
    return bool([power for power in plain_powers(roll.owners, roll.grants, grant[2], grant[0])
                 if power[0] >= grant[3] and power[1] >= grant[4]])


def alike_under_adding(one, other):
    """What the document says of when two rolls are the same under adding."""
    return same_powers(one, other) and all(has_its_power(one, grant) for grant in different_grants(one, other))


def some_added(one, other, chance):
    """A list of one to four grants that go well with those of the rolls, none of them to an owner."""
    near = list(one.grants + other.grants)
    added = []
    for _ in range(chance.randint(1, 4)):
        at, giver, taker, level, passes = chance.choice(near + added)
        giver, taker = chance.choice([(giver, taker), (taker, 'new'), (chance.choice(one.owners), giver)])
        if giver != taker and taker not in one.owners:
            added.append((max(-BIG, at + chance.choice([-1, 1])), giver, taker, min(9, level + chance.choice([0, 1])),
                          min(20, max(0, passes + chance.choice([-1, 1])))))
    return list(dict.fromkeys(added))


class LaterGrantTest(unittest.TestCase):
    def test_the_least_grant(self):
        roll = history_roll()
        less = roll.only(HISTORY[:3])
        self.assertEqual(later_grant(roll, less, 'ed'), (6, 'di', 'ed', 1, 0))
        self.assertEqual(later_grant(less, roll, 'zoe'), (6, 'di', 'zoe', 1, 0))
        self.assertEqual(later_grant(roll, roll.only(HISTORY[:1]), 'ed'), (6, 'cy', 'ed', 1, 0))
        self.assertIsNone(later_grant(roll, roll, 'ed'))
        self.assertIsNone(later_grant(four_roll(), four_roll().only(FOUR[:3]), 'ed'))

    def test_a_level_and_passes_that_are_covered_in_both(self):
        one = Roll('ann', grants=[(1, 'ann', 'bo', 5, 5)])
        for other, level, passes in [((1, 'ann', 'bo', 5, 6), 1, 5), ((1, 'ann', 'bo', 6, 5), 6, 0),
                                     ((1, 'ann', 'bo', 5, 1), 1, 1), ((1, 'ann', 'bo', 4, 7), 1, 5),
                                     ((1, 'ann', 'bo', 9, 5), 6, 0), ((1, 'ann', 'bo', 5, 20), 1, 5)]:
            for pair in [(one, Roll('ann', grants=[other])), (Roll('ann', grants=[other]), one)]:
                self.assertEqual(later_grant(*pair, 'cy'), (2, 'bo', 'cy', level, passes))
        most = Roll('ann', grants=[(1, 'ann', 'bo', 9, 20)])
        self.assertEqual(later_grant(most, Roll('ann', grants=[(1, 'ann', 'bo', 9, 19)]), 'cy'), (2, 'bo', 'cy', 1, 19))
        self.assertEqual(later_grant(most, Roll('ann', grants=[(1, 'ann', 'bo', 8, 20)]), 'cy'), (2, 'bo', 'cy', 9, 0))

    def test_powers_without_passes_do_not_show(self):
        one = Roll('ann', grants=[(1, 'ann', 'bo', 5, 0)])
        self.assertIsNone(later_grant(one, Roll('ann'), 'cy'))
        self.assertIsNone(later_grant(one, Roll('ann', grants=[(7, 'ann', 'di', 9, 0)]), 'cy'))

    def test_the_time_after_grants_that_do_not_count(self):
        one = Roll('ann', grants=[(1, 'ann', 'bo', 5, 1), (7, 'zoe', 'di', 1, 20)])
        other = Roll('ann', grants=[(9, 'zoe', 'ed', 1, 20)])
        self.assertEqual(later_grant(one, other, 'cy'), (10, 'bo', 'cy', 1, 0))
        self.assertEqual(later_grant(other, one, 'cy'), (10, 'bo', 'cy', 1, 0))
        self.assertEqual(later_grant(one, Roll('ann'), 'cy'), (8, 'bo', 'cy', 1, 0))
        early = Roll('ann', grants=[(-BIG, 'ann', 'bo', 5, 1)])
        self.assertEqual(later_grant(Roll('ann'), early, 'cy'), (1 - BIG, 'bo', 'cy', 1, 0))

    def test_against_all_grants_at_that_time(self):
        answers = {}
        for one, other in PAIRS + PADDED:
            grants = one.grants + other.grants
            if not grants:
                continue
            after = max(grant[0] for grant in grants) + 1
            held = [plainly_counting(roll.owners, roll.grants) for roll in (one, other)]
            tells = []
            for giver in sorted({*one.owners, 'yo', 'nobody'} | {name for grant in grants for name in grant[1:3]}):
                for level in range(1, 10):
                    for passes in range(21):
                        grant = (after, giver, 'new', level, passes)
                        sides = [giver in one.owners or any(plainly_supports(each, grant) for each in side)
                                 for side in held]
                        if sides[0] != sides[1]:
                            tells.append(grant)
            found = later_grant(one, other, 'new')
            self.assertEqual(found, min(tells, default=None))
            answers[found is None] = True
            names = {*one.persons, *other.persons}
            passing = [{name: [power for power in powers_of(roll, name) if power[1] > 0] for name in names}
                       for roll in (one, other)]
            self.assertIs(found is None, passing[0] == passing[1])
        self.assertEqual(len(answers), 2)

    def test_no_later_time(self):
        last = Roll('ann', grants=[(BIG, 'zoe', 'bo', 1, 1)])
        early = Roll('ann', grants=[(1, 'ann', 'bo', 1, 1)])
        check_error(self, InvalidTime, [lambda: later_grant(last, early, 'cy'), lambda: later_grant(early, last, 'cy'),
                                        lambda: later_grant(Roll('ann'), Roll('ann'), 'cy')])
        just = Roll('ann', grants=[(BIG - 1, 'ann', 'bo', 1, 1)])
        self.assertEqual(later_grant(just, Roll('ann'), 'cy'), (BIG, 'bo', 'cy', 1, 0))

    def test_known_names(self):
        roll = four_roll()
        other = Roll('ann', grants=[(1, 'ann', 'fy', 1, 1), (2, 'gus', 'fy', 1, 1)])
        for name in ['ann', 'bo', 'cy', 'di', 'fy', 'gus']:
            for pair in [(roll, other), (other, roll)]:
                with self.assertRaises(KnownName) as caught:
                    later_grant(*pair, name)
                self.assertEqual(caught.exception.name, name)
        self.assertEqual(later_grant(roll, other, 'gu'), (4, 'bo', 'gu', 1, 0))

    def test_the_order_of_errors(self):
        last = Roll('ann', grants=[(BIG, 'bo', 'cy', 1, 1)])
        for value in NOT_NAMES:
            check_error(self, InvalidName, [lambda: later_grant(four_roll(), four_roll(), value),
                                            lambda: later_grant(last, last, value),
                                            lambda: later_grant(Roll('ann'), Roll('ann'), value)])
            check_error(self, OtherOwners, [lambda: later_grant(four_roll(), Roll('bo'), value)])
        three = Roll('ann', 'bo', 'cy')
        for name in ['ann', 'bo', 'cy']:
            check_error(self, InvalidTime, [lambda: later_grant(last, last, name),
                                            lambda: later_grant(three, three, name)])
            check_error(self, OtherOwners, [lambda: later_grant(last, Roll('ann', 'bo'), name)])


class SameUnderAddingTest(unittest.TestCase):
    def check_answer(self, one, other):
        found = same_under_adding(one, other)
        if found is None:
            return True
        self.assertIs(type(found), tuple)
        added, name, at = found
        self.assertIs(type(added), list)
        self.assertLessEqual(len(added), 1)
        self.assertTrue(adding_differs(one, other, added, name, at))
        self.assertIs(adding_tells(one, other, found), True)
        return False

    def test_different_powers_now(self):
        roll = four_roll()
        less = roll.only(FOUR[:3])
        self.assertEqual(same_under_adding(roll, less), ([], 'di', 3))
        self.assertEqual(same_under_adding(less, roll), ([], 'di', 3))
        self.assertIsNone(same_under_adding(roll, roll))

    def test_a_grant_that_does_not_count_yet(self):
        one = Roll('ann', grants=[(2, 'bo', 'cy', 1, 0)])
        self.assertIs(self.check_answer(one, Roll('ann')), False)
        self.assertIs(self.check_answer(Roll('ann'), one), False)
        # Both have a grant from bo to cy, but only one of them the greater one.
        other = Roll('ann', grants=[(2, 'bo', 'cy', 1, 1), (2, 'bo', 'cy', 2, 0), (3, 'bo', 'cy', 9, 9)])
        for pair in [(one | other, other), (other, one | other), (one, other), (other, one)]:
            self.assertIs(self.check_answer(*pair), False)
        for grant in other.grants:
            rest = other.only([each for each in other.grants if each != grant])
            self.assertIs(self.check_answer(other, rest), False)
            self.assertIs(self.check_answer(rest, other), False)

    def test_powers_that_the_taker_has_anyway(self):
        one = Roll('ann', grants=[(1, 'ann', 'cy', 1, 1), (2, 'bo', 'cy', 1, 0)])
        self.assertIsNone(same_under_adding(one, one.only(one.grants[:1])))
        self.assertIs(self.check_answer(one, one.only(one.grants[1:])), False)
        late = Roll('ann', grants=[(3, 'ann', 'cy', 1, 1), (2, 'bo', 'cy', 1, 0)])
        self.assertIs(self.check_answer(late, late.only(late.grants[1:])), False)

    def test_grants_that_cannot_count(self):
        whole = Roll('ann', grants=[(5, 'bo', 'cy', 1, 20), (-BIG, 'bo', 'cy', 1, 0), (-BIG, 'cy', 'bo', 9, 20)])
        self.assertIsNone(same_under_adding(whole, Roll('ann')))
        self.assertIsNone(same_under_adding(whole.only(whole.grants[:1]), whole.only(whole.grants[1:])))
        for grant in [(5, 'bo', 'cy', 1, 19), (1 - BIG, 'bo', 'cy', 1, 0), (BIG, 'bo', 'cy', 9, 19),
                      (-BIG, 'ann', 'cy', 1, 0), (5, 'ann', 'cy', 1, 20)]:
            self.assertIs(self.check_answer(whole | Roll('ann', grants=[grant]), whole), False)

    def test_against_the_document_and_added_grants(self):
        answers = {}
        chance = random.Random(63)
        for one, other in PAIRS + PADDED:
            same = self.check_answer(one, other)
            self.assertIs(same, alike_under_adding(one, other))
            answers[same, one == other, same_powers(one, other)] = True
            for _ in range(8 if same and one.grants + other.grants else 0):
                added = some_added(one, other, chance)
                mine, theirs = with_added(one, added), with_added(other, added)
                for name, at in {(grant[2], grant[0]) for grant in mine + theirs}:
                    self.assertFalse(differ(one.owners, mine, theirs, name, at))
        self.assertLessEqual({(True, False, True), (False, False, True), (False, False, False)}, set(answers))


class AddingTellsTest(unittest.TestCase):
    def test_experiments(self):
        one = Roll('ann', grants=[(2, 'bo', 'cy', 1, 0)])
        other = Roll('ann')
        support = (1, 'ann', 'bo', 1, 1)
        for added, name, at, expected in [
                ([support], 'cy', 2, True), ([support], 'cy', BIG, True), ([support], 'cy', 1, False),
                ([support], 'bo', 2, False), ([], 'cy', 2, False), ([support], 'zoe', 2, False),
                ([support, (5, 'zoe', 'di', 1, 1), (0, 'di', 'yo', 1, 1)], 'cy', 3, True),
                ([(0, 'bo', 'cy', 1, 0), support], 'cy', 2, True), ([(2, 'bo', 'cy', 1, 0), support], 'cy', 2, False),
                ([support, (2, 'ann', 'cy', 9, 9)], 'cy', 2, False), ([support, (3, 'ann', 'cy', 9, 9)], 'cy', 2, True),
                ([(2, 'ann', 'bo', 1, 1)], 'cy', 2, False), ([(1, 'ann', 'bo', 1, 0)], 'cy', 2, False)]:
            self.assertIs(adding_tells(one, other, (added, name, at)), expected, added)
            self.assertIs(adding_tells(other, one, (added, name, at)), expected, added)

    def test_a_grant_that_one_roll_has(self):
        one, other = history_roll(), history_roll().only(HISTORY[1:])
        self.assertIs(adding_tells(one, other, ([], 'bo', 1)), True)
        self.assertIs(adding_tells(one, other, (HISTORY[:1], 'bo', 1)), False)
        self.assertIs(adding_tells(one, other, (HISTORY[1:], 'cy', 2)), True)
        self.assertIs(adding_tells(one, other, (HISTORY[::-1], 'cy', 2)), False)

    def test_against_the_powers(self):
        many = {}
        chance = random.Random(64)
        for one, other in PAIRS:
            for _ in range(4 if one.grants + other.grants else 0):
                added = some_added(one, other, chance)
                for grant in one.grants + other.grants + tuple(added):
                    expected = adding_differs(one, other, added, grant[2], grant[0])
                    self.assertIs(adding_tells(one, other, (added, grant[2], grant[0])), expected)
                    many[expected] = True
        self.assertEqual(len(many), 2)

    def test_other_forms(self):
        one = Roll('ann', grants=[(2, 'bo', 'cy', 1, 0)])
        other = Roll('ann')
        support = (1, 'ann', 'bo', 1, 1)
        self.assertIs(adding_tells(one, other, ([support], 'cy', 2)), True)
        values = [[[support], 'cy', 2], ([support], 'cy'), ([support], 'cy', 2, None), ([support], [], 'cy', 2),
                  (support, 'cy', 2), ((support,), 'cy', 2), ({support: 1}, 'cy', 2), ('', 'cy', 2), (None, 'cy', 2),
                  ([support, support], 'cy', 2), ([list(support)], 'cy', 2), ([support, None], 'cy', 2),
                  ([(True, 'ann', 'bo', 1, 1)], 'cy', 2), ([support, (0, 'bo', 'ann', 1, 1)], 'cy', 2),
                  ([support], 'ann', 2), ([support], 'cy', None), ([support, [support]], 'cy', 2),
                  ([support, (1, 'ann', 'bo', 0, 1)], 'cy', 2)]
        values += [([support], name, 2) for name in NOT_NAMES] + [([support], 'cy', at) for at in NOT_TIMES]
        values += [([support, value], 'cy', 2) for value in ODD_VALUES if value != (1, 'ann', 'bo', 5, 2)]
        values += [(value, 'cy', 2) for value in ODD_VALUES if value != []]
        for value in values + ODD_VALUES + [deep_value(), (deep_value(),) * 3, ([deep_value()], 'cy', 2)]:
            self.assertIs(adding_tells(one, other, value), False, value)
        many = [(at, 'zoe', person(at), 1, 1) for at in range(26)]
        self.assertIs(adding_tells(one, other, ([support] + many, 'cy', 2)), True)

    def test_other_owners(self):
        for value in ODD_VALUES + [([], 'cy', 2)]:
            check_error(self, OtherOwners, [lambda: adding_tells(four_roll(), Roll('bo'), value)])


class SameAlwaysTest(unittest.TestCase):
    def check_answer(self, one, other):
        found = same_always(one, other)
        if found is None:
            return True
        self.assertIs(type(found), tuple)
        added, left, name, at = found
        self.assertEqual([type(added), type(left)], [list, list])
        self.assertLessEqual(len(added), 1)
        self.assertEqual(left, sorted(set(left)))
        self.assertTrue(always_differs(one, other, added, left, name, at))
        self.assertIs(always_tells(one, other, found), True)
        return False

    def test_a_grant_that_one_roll_has(self):
        roll = four_roll()
        self.assertIsNone(same_always(roll, roll))
        self.assertEqual(same_always(roll, roll.only(FOUR[1:])), ([], FOUR[:1], 'bo', 1))
        self.assertEqual(same_always(roll.only(FOUR[1:]), roll), ([], FOUR[:1], 'bo', 1))
        for grant in FOUR:
            rest = roll.only([each for each in FOUR if each != grant])
            self.assertIs(self.check_answer(roll, rest), False)
            self.assertIs(self.check_answer(rest, roll), False)

    def test_idle_grants_tell_too(self):
        one = Roll('ann', grants=HISTORY + [(6, 'di', 'cy', 1, 0)])
        self.assertIs(self.check_answer(one, history_roll()), False)
        self.assertIs(self.check_answer(history_roll(), one), False)

    def test_grants_that_cannot_count(self):
        whole = Roll('ann', grants=[(5, 'bo', 'cy', 1, 20), (-BIG, 'bo', 'cy', 1, 0), (-BIG, 'cy', 'bo', 9, 20)])
        self.assertIsNone(same_always(whole, Roll('ann')))
        self.assertIsNone(same_always(whole.only(whole.grants[:1]), whole.only(whole.grants[1:])))
        for grant in [(5, 'bo', 'cy', 1, 19), (1 - BIG, 'bo', 'cy', 1, 0), (BIG, 'bo', 'cy', 9, 19),
                      (-BIG, 'ann', 'cy', 1, 0), (5, 'ann', 'cy', 1, 20)]:
            self.assertIs(self.check_answer(whole | Roll('ann', grants=[grant]), whole), False)
            self.assertIs(self.check_answer(whole, whole | Roll('ann', grants=[grant])), False)

    def test_against_the_document_and_what_may_be_done(self):
        answers = {}
        chance = random.Random(65)
        barred = [(5, 'zoe', 'yo', 1, 20), (-BIG, 'zoe', 'yo', 1, 3)]
        alike = [(one, one | Roll(*one.owners, grants=barred)) for one, _ in PAIRS[::4]]
        for one, other in PAIRS + PADDED + alike:
            same = self.check_answer(one, other)
            self.assertIs(same, not different_grants(one, other))
            answers[same, one == other] = True
            for _ in range(8 if same and one.grants + other.grants else 0):
                added = some_added(one, other, chance)
                left = [grant for grant in with_added(one | other, added) if chance.random() < 0.7]
                for grant in left:
                    self.assertFalse(always_differs(one, other, added, left, grant[2], grant[0]))
        self.assertLessEqual({(True, False), (False, False), (True, True)}, set(answers))


class AlwaysTellsTest(unittest.TestCase):
    def test_experiments(self):
        grant, support = (2, 'bo', 'cy', 1, 0), (1, 'ann', 'bo', 1, 1)
        one, other = Roll('ann', grants=[grant]), Roll('ann')
        to_owner, unknown = (1, 'bo', 'ann', 1, 1), (3, 'ann', 'cy', 9, 9)
        for added, left, name, at, expected in [
                ([support], [support, grant], 'cy', 2, True), ([support], [grant, support], 'cy', 2, True),
                ([support], [grant], 'cy', 2, False), ([support], [support], 'cy', 2, False),
                ([], [support, grant], 'cy', 2, False), ([support], [], 'cy', 2, False),
                ([support], [unknown, grant, to_owner, support], 'cy', 3, True),
                ([support, unknown], [unknown, grant, support], 'cy', 3, False),
                ([support, unknown], [grant, support], 'cy', 3, True), ([support], [support, grant], 'cy', 1, False),
                ([support], [support, grant], 'bo', 1, False), ([grant, support], [grant, support], 'cy', 2, False)]:
            self.assertIs(always_tells(one, other, (added, left, name, at)), expected, (added, left))
            self.assertIs(always_tells(other, one, (added, left, name, at)), expected, (added, left))

    def test_what_is_revoked_in_both(self):
        roll = Roll('ann', grants=HISTORY + [(6, 'di', 'cy', 1, 0)])
        less = roll.only(HISTORY[:3])
        self.assertIs(always_tells(roll, less, ([], HISTORY, 'di', 5)), True)
        self.assertIs(always_tells(roll, less, ([], HISTORY[:3], 'di', 5)), False)
        self.assertIs(always_tells(roll, less, ([], [HISTORY[0], HISTORY[3]], 'di', 5)), False)
        self.assertIs(always_tells(roll, less, ([], HISTORY[2:], 'di', 5)), True)

    def test_against_the_powers(self):
        many = {}
        chance = random.Random(66)
        for one, other in PAIRS:
            for _ in range(4 if one.grants + other.grants else 0):
                added = some_added(one, other, chance)
                left = [grant for grant in with_added(one | other, added) if chance.random() < 0.8]
                chance.shuffle(left)
                for grant in left:
                    expected = always_differs(one, other, added, left, grant[2], grant[0])
                    self.assertIs(always_tells(one, other, (added, left, grant[2], grant[0])), expected)
                    many[expected] = True
        self.assertEqual(len(many), 2)

    def test_other_forms(self):
        grant, support = (2, 'bo', 'cy', 1, 0), (1, 'ann', 'bo', 1, 1)
        one, other = Roll('ann', grants=[grant]), Roll('ann')
        left = [support, grant]
        self.assertIs(always_tells(one, other, ([support], left, 'cy', 2)), True)
        values = [[[support], left, 'cy', 2], ([support], left, 'cy'), ([support], left, 'cy', 2, None),
                  ([support], 'cy', 2), ((support,), left, 'cy', 2), ([support], tuple(left), 'cy', 2),
                  ([support] * 2, left, 'cy', 2), ([support], left + left[:1], 'cy', 2), (support, left, 'cy', 2),
                  ([support], {support: 1, grant: 1}, 'cy', 2), ([support], None, 'cy', 2),
                  ([support, (0, 'bo', 'ann', 1, 1)], left, 'cy', 2), ([support], left, 'ann', 2),
                  ([support], left, 'cy', None), ([support], left + [None], 'cy', 2),
                  ([support], left + [list(grant)], 'cy', 2), ([support], [grant, (True, 'ann', 'bo', 1, 1)], 'cy', 2),
                  ([(True, 'ann', 'bo', 1, 1)], left, 'cy', 2), ([support], left + [(2, 'bo', 'bo', 1, 0)], 'cy', 2)]
        values += [([support], left, name, 2) for name in NOT_NAMES]
        values += [([support], left, 'cy', at) for at in NOT_TIMES]
        values += [([support], left + [value], 'cy', 2) for value in ODD_VALUES if value != (1, 'ann', 'bo', 5, 2)]
        values += [([support], value, 'cy', 2) for value in ODD_VALUES]
        values += [(value, left, 'cy', 2) for value in ODD_VALUES]
        for value in values + ODD_VALUES + [deep_value(), (deep_value(),) * 4, ([support], deep_value(), 'cy', 2)]:
            self.assertIs(always_tells(one, other, value), False, value)

    def test_other_owners(self):
        for value in ODD_VALUES + [([], [], 'cy', 2)]:
            check_error(self, OtherOwners, [lambda: always_tells(four_roll(), Roll('bo'), value)])

    def test_other_owners_of_both(self):
        for one, other in [(four_roll(), Roll('bo')), (Roll('bo'), four_roll()), (Roll('ann'), Roll('ann', 'bo')),
                           (four_roll(), Roll('ann', 'zoe', grants=FOUR)), (Roll('zoe', grants=FOUR), four_roll())]:
            check_error(self, OtherOwners, [lambda: same_always(one, other), lambda: same_under_adding(one, other),
                                            lambda: later_grant(one, other, 'new')])


class ManyGrantsTest(unittest.TestCase):
    """Rolls of 60 grants, and as many grants as may be added."""

    def setUp(self):
        self.roll = layered_roll(layers())
        self.begin = time.perf_counter()

    def tearDown(self):
        self.assertLess(time.perf_counter() - self.begin, 5)

    def test_more_than_sixty_grants_together(self):
        one = self.roll
        other = Roll('ann', grants=[(grant[0], 'zoe') + grant[2:] for grant in one.grants])
        added = [(-100 + k, 'ann', person(k % 26), 1, 1 + k // 26) for k in range(200)]
        self.assertIs(adding_tells(one, other, ([], person(20), 57)), True)
        for last, at in [(person(20), 57), (person(1), 0), (person(25), 99)]:
            expected = adding_differs(one, other, added, last, at)
            self.assertIs(adding_tells(one, other, (added, last, at)), expected)
            self.assertIs(always_tells(one, other, (added, added[::-1], last, at)), False)
            self.assertIs(always_tells(one, other, (added, list(one.grants) + added, last, at)), expected)
        self.assertEqual(same_under_adding(one, other), ([], person(1), 0))
        self.assertEqual(later_grant(one, other, 'zz'), (60, person(1), 'zz', 1, 0))
        # Their owners' grants would support those of the other roll.
        zoes = [(-1, 'ann', 'zoe', 1, 20 - k) for k in range(20)] + [(-1, 'ann', 'zoe', 9, 20)]
        self.assertIs(adding_tells(one, other, (zoes, person(20), 57)), False)

    def test_rolls_that_differ_at_the_last_place(self):
        less = self.roll.only(self.roll.grants[:57])
        self.assertEqual(same_under_adding(self.roll, less), ([], person(20), 57))
        self.assertIsNone(same_under_adding(self.roll, self.roll.only(self.roll.grants[:58])))
        self.assertEqual(len(same_always(self.roll, self.roll.only(self.roll.grants[:59]))[0]), 1)
        self.assertEqual(later_grant(self.roll, less, 'zz'), (60, person(20), 'zz', 1, 0))
        self.assertIsNone(later_grant(self.roll, self.roll.only(self.roll.grants[:58]), 'zz'))
        self.assertIsNone(same_always(self.roll, layered_roll(layers())))


if __name__ == '__main__':
    unittest.main()
