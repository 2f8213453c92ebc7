import unittest

from grantroll.errors import InvalidGrants, InvalidRoll, OtherOwners, UnknownGrant
from grantroll.rolls import Roll, chosen_grants
from tests.samples import FOUR, ODD_VALUES, deep_value, four_roll, random_rolls

GOOD = (1, 'ann', 'bo', 5, 2)
SIXTY = [(time, 'ann', 'bo', 5, 2) for time in range(60)]


class NewRollTest(unittest.TestCase):
    def reason(self, *owners, **more):
        with self.assertRaises(InvalidRoll) as caught:
            Roll(*owners, **more)
        return caught.exception.reason

    def test_numbers_of_owners(self):
        self.assertEqual(self.reason(), ('owners',))
        self.assertEqual(self.reason('a', 'b', 'c', 'd', 'e'), ('owners',))
        self.assertEqual(self.reason(None, None, None, None, None), ('owners',))
        self.assertEqual(Roll('a', 'b', 'c', 'd').owners, ('a', 'b', 'c', 'd'))

    def test_owners_that_are_no_names(self):
        for value in ['', 'Ann', 'abcdefghi', 'a b', 1, True, None, (), ['ann'], ('ann',), {}, deep_value()]:
            with self.subTest(value=value):
                self.assertEqual(self.reason(value), ('owner', 0))
                self.assertEqual(self.reason('ann', 'bo', value), ('owner', 2))

    def test_the_least_wrong_owner(self):
        self.assertEqual(self.reason('ann', 'bo', 'ann', ''), ('owner', 2))
        self.assertEqual(self.reason('ann', '', 'ann'), ('owner', 1))
        self.assertEqual(self.reason('ann', 'ann'), ('owner', 1))

    def test_grants_that_are_no_list_or_tuple(self):
        for value in [None, True, 0, '', 'grants', {}, {GOOD: True}]:
            with self.subTest(value=value):
                self.assertEqual(self.reason('ann', grants=value), ('grants',))

    def test_sixty_and_sixty_one_grants(self):
        self.assertEqual(len(Roll('ann', grants=SIXTY)), 60)
        self.assertEqual(len(Roll('ann', grants=tuple(SIXTY))), 60)
        self.assertEqual(self.reason('ann', grants=SIXTY + [GOOD]), ('grants',))
        self.assertEqual(self.reason('ann', grants=[None] * 61), ('grants',))
        self.assertEqual(self.reason('ann', grants=[None] * 60), ('grant', 0, ('grant',)))

    def test_entries_that_are_no_grants(self):
        cases = {
            (1, 'ann', 'bo', 5): ('grant',), (True, 'ann', 'bo', 5, 2): ('time',), (10 ** 30 + 1, 'a', 'b', 5, 2): ('time',),
            (1, '', 'bo', 5, 2): ('giver',), (1, 'ann', 'Bo', 5, 2): ('taker',), (1, 'bo', 'bo', 5, 2): ('same',),
            (1, 'ann', 'bo', 10, 2): ('level',), (1, 'ann', 'bo', 5, 21): ('passes',),
            (1, 'ann', 'bo', True, 2): ('level',), (1, 'ann', 'bo', 5, True): ('passes',), None: ('grant',),
        }
        for entry, reason in cases.items():
            with self.subTest(entry=entry):
                self.assertEqual(self.reason('zoe', grants=[entry]), ('grant', 0, reason))
                self.assertEqual(self.reason('zoe', grants=(GOOD, FOUR[2], entry)), ('grant', 2, reason))
        self.assertEqual(self.reason('zoe', grants=[list(GOOD)]), ('grant', 0, ('grant',)))
        self.assertEqual(self.reason('zoe', grants=[deep_value()]), ('grant', 0, ('grant',)))

    def test_takers_that_are_owners(self):
        self.assertEqual(self.reason('ann', grants=[GOOD, (2, 'bo', 'ann', 1, 0)]), ('owned', 1))
        self.assertEqual(self.reason('ann', 'bo', grants=[GOOD]), ('owned', 0))

    def test_repeated_grants(self):
        self.assertEqual(self.reason('ann', grants=[GOOD, FOUR[2], GOOD]), ('repeated', 2))
        self.assertEqual(self.reason('ann', grants=[GOOD, GOOD, None]), ('repeated', 1))

    def test_a_boolean_repeats_no_integer(self):
        self.assertEqual(self.reason('ann', grants=[GOOD, (True, 'ann', 'bo', 5, 2)]), ('grant', 1, ('time',)))

    def test_the_order_of_the_reasons(self):
        self.assertEqual(self.reason(grants=None), ('owners',))
        self.assertEqual(self.reason('', grants=None), ('owner', 0))
        self.assertEqual(self.reason('ann', grants=[(1, 'bo', 'ann', 5, 2), None]), ('owned', 0))
        self.assertEqual(self.reason('ann', grants=[None, (1, 'bo', 'ann', 5, 2)]), ('grant', 0, ('grant',)))
        self.assertEqual(self.reason('ann', grants=[GOOD, GOOD, (1, 'bo', 'ann', 5, 2)]), ('repeated', 1))
        self.assertEqual(self.reason('bo', grants=[(1, 'bo', 'bo', 5, 2)]), ('grant', 0, ('same',)))

    def test_grants_are_passed_by_keyword_only(self):
        self.assertEqual(self.reason('ann', [GOOD]), ('owner', 1))

    def test_most_grants(self):
        self.assertEqual(Roll.MOST_GRANTS, 60)
        self.assertEqual(Roll('ann').MOST_GRANTS, 60)


class ReadingRollTest(unittest.TestCase):
    def test_properties_are_ascending_tuples(self):
        roll = Roll('cy', 'ann', grants=[FOUR[1], (5, 'cy', 'bo', 1, 1), FOUR[0], (-4, 'zoe', 'al', 9, 20)])
        self.assertEqual(roll.owners, ('ann', 'cy'))
        self.assertEqual(roll.grants, ((-4, 'zoe', 'al', 9, 20), FOUR[0], FOUR[1], (5, 'cy', 'bo', 1, 1)))
        self.assertEqual(roll.persons, ('al', 'bo', 'di', 'zoe'))
        for part in (roll.owners, roll.grants, roll.persons):
            self.assertIs(type(part), tuple)

    def test_grants_ascend_entry_by_entry(self):
        some = [(1, 'b', 'a', 1, 1), (1, 'a', 'c', 1, 1), (1, 'a', 'b', 2, 1), (1, 'a', 'b', 1, 2), (1, 'a', 'b', 1, 1),
                (-10 ** 30, 'z', 'y', 9, 20), (10 ** 30, 'a', 'b', 1, 0)]
        expected = tuple([some[5], some[4], some[3], some[2], some[1], some[0], some[6]])
        self.assertEqual(Roll('o', grants=some).grants, expected)

    def test_a_roll_without_grants(self):
        roll = Roll('ann')
        self.assertEqual([roll.grants, roll.persons, len(roll)], [(), (), 0])
        self.assertEqual(Roll('ann', grants=[]), Roll('ann', grants=()))

    def test_length(self):
        self.assertEqual(len(four_roll()), 4)

    def test_properties_cannot_be_assigned(self):
        roll = four_roll()
        for name in ('owners', 'grants', 'persons'):
            self.assertRaises(AttributeError, setattr, roll, name, ())

    def test_in(self):
        roll = four_roll()
        for grant in FOUR:
            self.assertIs(grant in roll, True)
            self.assertIs(tuple(list(grant)) in roll, True)
        for value in [*ODD_VALUES, deep_value(), (1, 'ann', 'bo', 5, 1), list(FOUR[0]), roll, FOUR, 'bo']:
            with self.subTest(value=value):
                self.assertIs(value in roll, False)

    def test_in_is_strict_with_booleans(self):
        roll = Roll('ann', grants=[(1, 'ann', 'bo', 1, 0), (0, 'ann', 'bo', 1, 1)])
        for value in [(True, 'ann', 'bo', 1, 0), (1, 'ann', 'bo', True, 0), (1, 'ann', 'bo', 1, False),
                      (False, 'ann', 'bo', 1, 1), (0, 'ann', 'bo', 1, True)]:
            with self.subTest(value=value):
                self.assertNotIn(value, roll)

    def test_equal_rolls(self):
        self.assertTrue(four_roll() == Roll('ann', grants=tuple(reversed(FOUR))))
        self.assertFalse(four_roll() != Roll('ann', grants=tuple(reversed(FOUR))))
        self.assertTrue(Roll('ann', 'bo') == Roll('bo', 'ann'))

    def test_rolls_that_differ(self):
        roll = four_roll()
        for other in [Roll('ann', grants=FOUR[:3]), Roll('ann', 'zoe', grants=FOUR), Roll('zoe', grants=FOUR),
                      None, 4, True, str(roll), roll.grants, list(roll.grants), (roll.owners, roll.grants)]:
            with self.subTest(other=other):
                self.assertIs(roll == other, False)
                self.assertIs(roll != other, True)
                self.assertIs(other == roll, False)

    def test_a_roll_copies_its_arguments(self):
        owners = ['ann', 'zoe']
        grants = list(FOUR)
        roll = Roll(*owners, grants=grants)
        text = str(roll)
        self.assertEqual(grants, FOUR)
        owners.append('cy')
        grants.pop()
        grants[0] = None
        self.assertEqual([roll.owners, roll.grants, str(roll)], [('ann', 'zoe'), tuple(FOUR), text])

    def test_the_methods_stand_in_the_class_itself(self):
        for name in ['__init__', '__len__', '__contains__', '__eq__', '__str__', '__or__', '__and__', '__sub__',
                     'owners', 'grants', 'persons', 'only', 'read', 'MOST_GRANTS']:
            self.assertIn(name, vars(Roll))


class OnlyTest(unittest.TestCase):
    def test_some_grants(self):
        roll = Roll('zoe', 'ann', grants=FOUR)
        part = roll.only([FOUR[3], FOUR[0]])
        self.assertEqual(part, Roll('ann', 'zoe', grants=[FOUR[0], FOUR[3]]))
        self.assertEqual(roll.only((FOUR[1],)).grants, (FOUR[1],))
        self.assertEqual(roll.only(()), Roll('ann', 'zoe'))
        self.assertEqual(roll.only([]), roll.only(()))
        self.assertEqual(roll.only(roll.grants), roll)
        self.assertEqual(len(roll), 4)

    def test_repeated_entries_are_taken_once_and_may_be_many(self):
        self.assertEqual(four_roll().only([FOUR[2], FOUR[0], FOUR[2]]).grants, (FOUR[0], FOUR[2]))
        self.assertEqual(four_roll().only(FOUR * 500).grants, tuple(FOUR))
        self.assertEqual(Roll('ann', grants=SIXTY).only(SIXTY + SIXTY[:1]).grants, tuple(SIXTY))

    def test_chosen_grants_are_ascending(self):
        chosen = chosen_grants(four_roll(), (FOUR[3], FOUR[0], FOUR[3], FOUR[2]))
        self.assertEqual(chosen, [FOUR[0], FOUR[2], FOUR[3]])

    def test_not_a_list_or_tuple(self):
        for value in [None, True, 3, '', 'ann', {}, {FOUR[0]: True}]:
            with self.subTest(value=value):
                self.assertRaises(InvalidGrants, four_roll().only, value)

    def test_the_first_unknown_entry(self):
        missing = (9, 'ann', 'bo', 5, 2)
        for value in [*ODD_VALUES, deep_value(), missing]:
            with self.subTest(value=value):
                with self.assertRaises(UnknownGrant) as caught:
                    four_roll().only([FOUR[0], value, 'later', missing])
                self.assertIs(caught.exception.grant, value)

    def test_a_single_grant_is_a_tuple_of_unknown_entries(self):
        with self.assertRaises(UnknownGrant) as caught:
            four_roll().only(FOUR[0])
        self.assertEqual(caught.exception.grant, 1)

    def test_the_argument_is_neither_modified_nor_kept(self):
        roll = four_roll()
        grants = [FOUR[3], FOUR[0], FOUR[3]]
        part = roll.only(grants)
        self.assertEqual(grants, [FOUR[3], FOUR[0], FOUR[3]])
        grants.clear()
        self.assertEqual(part.grants, (FOUR[0], FOUR[3]))
        self.assertEqual(roll, four_roll())

    def test_by_name(self):
        self.assertEqual(len(four_roll().only(grants=FOUR[:2])), 2)


class OperatorsTest(unittest.TestCase):
    def setUp(self):
        self.one = Roll('ann', 'zoe', grants=FOUR[:3])
        self.other = Roll('zoe', 'ann', grants=[FOUR[3], FOUR[1]])

    def test_with_the_grants_of_both(self):
        self.assertEqual(self.one | self.other, Roll('ann', 'zoe', grants=FOUR))
        self.assertEqual(self.other | self.one, Roll('ann', 'zoe', grants=FOUR))

    def test_with_the_common_grants(self):
        self.assertEqual(self.one & self.other, Roll('ann', 'zoe', grants=[FOUR[1]]))

    def test_without_the_grants_of_the_other(self):
        self.assertEqual(self.one - self.other, Roll('ann', 'zoe', grants=[FOUR[0], FOUR[2]]))
        self.assertEqual(self.other - self.one, Roll('ann', 'zoe', grants=[FOUR[3]]))
        self.assertEqual(self.one - self.one, Roll('ann', 'zoe'))

    def test_the_operands_stay_as_they_are(self):
        for _ in (self.one | self.other, self.one & self.other, self.one - self.other):
            self.assertEqual(self.one, Roll('ann', 'zoe', grants=FOUR[:3]))
            self.assertEqual(self.other, Roll('ann', 'zoe', grants=[FOUR[1], FOUR[3]]))

    def test_against_sets(self):
        rolls = [roll for roll in random_rolls(60, 12, seed=7) if roll.owners == ('ann',)]
        self.assertGreater(len(rolls), 5)
        for one in rolls:
            for other in rolls:
                here, there = set(one.grants), set(other.grants)
                self.assertEqual((one | other).grants, tuple(sorted(here | there)))
                self.assertEqual((one & other).grants, tuple(sorted(here & there)))
                self.assertEqual((one - other).grants, tuple(sorted(here - there)))

    def test_other_owners(self):
        for other in [Roll('ann'), Roll('ann', 'bo'), Roll('ann', 'bo', 'zoe'), Roll('ann', grants=SIXTY)]:
            with self.subTest(other=other.owners):
                with self.assertRaises(OtherOwners):
                    self.one | other
                with self.assertRaises(OtherOwners):
                    self.one & other
                with self.assertRaises(OtherOwners):
                    self.one - other

    def test_more_than_sixty_grants(self):
        full = Roll('ann', grants=SIXTY)
        more = Roll('ann', grants=[SIXTY[0], (60, 'ann', 'bo', 5, 2)])
        with self.assertRaises(InvalidRoll) as caught:
            full | more
        self.assertEqual(caught.exception.reason, ('grants',))
        self.assertEqual(full | full, full)
        self.assertEqual((full.only(SIXTY[:59]) | more).grants, (*SIXTY[:59], (60, 'ann', 'bo', 5, 2)))
        self.assertEqual(full & more, Roll('ann', grants=SIXTY[:1]))
        self.assertEqual(full - more, Roll('ann', grants=SIXTY[1:]))

    def test_other_owners_come_before_too_many_grants(self):
        with self.assertRaises(OtherOwners):
            Roll('zoe', grants=SIXTY) | Roll('ann', grants=[(60, 'ann', 'bo', 5, 2)])


if __name__ == '__main__':
    unittest.main()
