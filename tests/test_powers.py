import unittest

from grantroll.errors import InvalidName, InvalidPower, InvalidTime
from grantroll.powers import has, holders, powers_of, since, steps_of
from grantroll.rolls import Roll
from tests.samples import (FOUR, NOT_NAMES, NOT_POWERS, NOT_TIMES, check_error, dense_rolls, four_roll,
                           plainly_counting, random_rolls)

BIG = 10 ** 30
# bo's powers: (5, 2) at 2, a covered one at 3, one that covers none and is covered by none at 4, one above both at 7.
STEPS = [(2, 'ann', 'bo', 5, 2), (3, 'ann', 'bo', 4, 2), (4, 'ann', 'bo', 3, 6), (7, 'ann', 'bo', 6, 6),
         (1, 'cy', 'bo', 9, 20), (5, 'bo', 'cy', 3, 1)]
LEAST, GREATEST = (1, 0), (9, 20)


def steps_roll():
    return Roll('ann', 'zoe', grants=STEPS)


def plain_pairs(roll, name, at):
    """The pairs of the grants to the person that count, until the time."""
    held = plainly_counting(roll.owners, roll.grants)
    return {(level, passes) for time, _, taker, level, passes in held
            if taker == name and (at is None or time <= at)}


def plain_powers(roll, name, at):
    """The maximal ones of these pairs, by what the document says of them."""
    pairs = plain_pairs(roll, name, at)
    return sorted(pair for pair in pairs
                  if not any(more[0] >= pair[0] and more[1] >= pair[1] for more in pairs - {pair}))


class HasTest(unittest.TestCase):
    def test_just_before_at_and_just_after_a_time(self):
        roll = steps_roll()
        for at, expected in [(1, False), (2, True), (3, True), (BIG, True), (None, True), (-BIG, False)]:
            with self.subTest(at=at):
                self.assertIs(has(roll, 'bo', (5, 2), at=at), expected)
        for at, expected in [(6, False), (7, True), (8, True), (None, True)]:
            with self.subTest(at=at):
                self.assertIs(has(roll, 'bo', (6, 6), at=at), expected)

    def test_at_may_be_left_out_and_is_passed_by_keyword(self):
        roll = four_roll()
        self.assertIs(has(roll, 'di', (3, 0)), True)
        self.assertIs(has(roll, 'di', (3, 0), at=2), False)
        self.assertIs(has(roll=roll, name='di', power=(3, 0), at=3), True)
        with self.assertRaises(TypeError):
            has(roll, 'di', (3, 0), 3)

    def test_both_entries_are_compared(self):
        roll = Roll('ann', grants=[(1, 'ann', 'bo', 5, 2)])
        for power, expected in [((5, 2), True), ((5, 1), True), ((4, 2), True), (LEAST, True), ((6, 2), False),
                                ((5, 3), False), ((6, 1), False), ((1, 20), False), ((9, 0), False)]:
            with self.subTest(power=power):
                self.assertIs(has(roll, 'bo', power), expected)

    def test_one_grant_must_cover_the_power_alone(self):
        roll = Roll('ann', grants=[(1, 'ann', 'bo', 5, 2), (1, 'ann', 'bo', 3, 6)])
        self.assertEqual([has(roll, 'bo', (5, 6)), has(roll, 'bo', (4, 3)), has(roll, 'bo', (3, 3))],
                         [False, False, True])

    def test_grants_that_do_not_count_give_nothing(self):
        self.assertIs(has(four_roll(), 'di', (2, 0), at=2), False)
        self.assertIs(has(steps_roll(), 'bo', GREATEST), False)

    def test_owners_have_every_power_at_every_time(self):
        for roll in [steps_roll(), Roll('ann', 'zoe')]:
            for name in ['ann', 'zoe']:
                for at in [None, -BIG, 0, BIG]:
                    for power in [LEAST, GREATEST, (5, 2)]:
                        self.assertIs(has(roll, name, power, at=at), True)

    def test_a_name_that_does_not_occur_has_nothing(self):
        for name in ['nobody', 'a', 'abcdefgh']:
            self.assertIs(has(steps_roll(), name, LEAST), False)
            self.assertIs(has(steps_roll(), name, LEAST, at=BIG), False)

    def test_a_giver_without_a_grant_has_nothing(self):
        roll = Roll('ann', grants=[(1, 'bo', 'cy', 1, 1)])
        self.assertEqual([has(roll, name, LEAST) for name in roll.persons], [False, False])

    def test_extreme_times(self):
        roll = Roll('ann', grants=[(-BIG, 'ann', 'bo', 9, 20), (BIG, 'ann', 'cy', 9, 20)])
        self.assertEqual([has(roll, 'bo', GREATEST, at=at) for at in (-BIG, BIG, None)], [True, True, True])
        self.assertEqual([has(roll, 'cy', GREATEST, at=at) for at in (-BIG, BIG - 1, BIG, None)],
                         [False, False, True, True])

    def test_against_the_pairs_of_random_rolls(self):
        for roll in random_rolls(30, 11, seed=3) + dense_rolls(15, 14):
            for name in roll.persons:
                for at in [None, *range(-4, 10)]:
                    pairs = plain_pairs(roll, name, at)
                    for power in [(1, 0), (2, 0), (2, 3), (3, 2), (1, 4), (2, 8)]:
                        expected = any(level >= power[0] and passes >= power[1] for level, passes in pairs)
                        self.assertIs(has(roll, name, power, at=at), expected)


class PowersOfTest(unittest.TestCase):
    def test_where_one_covers_another_and_where_none_does(self):
        roll = steps_roll()
        for at, expected in [(1, []), (2, [(5, 2)]), (3, [(5, 2)]), (4, [(3, 6), (5, 2)]), (6, [(3, 6), (5, 2)]),
                             (7, [(6, 6)]), (None, [(6, 6)]), (BIG, [(6, 6)]), (-BIG, [])]:
            with self.subTest(at=at):
                self.assertEqual(powers_of(roll, 'bo', at=at), expected)

    def test_the_same_level_or_the_same_passes(self):
        roll = Roll('ann', grants=[(1, 'ann', 'bo', 5, 2), (1, 'ann', 'bo', 5, 3), (1, 'ann', 'cy', 5, 2),
                                   (1, 'ann', 'cy', 4, 2)])
        self.assertEqual([powers_of(roll, 'bo'), powers_of(roll, 'cy')], [[(5, 3)], [(5, 2)]])

    def test_one_pair_of_several_grants_stands_once(self):
        roll = Roll('ann', grants=[(1, 'ann', 'bo', 5, 2), (2, 'ann', 'bo', 5, 2), (2, 'ann', 'bo', 2, 5),
                                   (3, 'ann', 'bo', 2, 5)])
        self.assertEqual(powers_of(roll, 'bo'), [(2, 5), (5, 2)])

    def test_many_powers_ascend(self):
        roll = Roll('ann', grants=[(level % 3, 'ann', 'bo', level, 10 - level) for level in range(9, 0, -1)])
        self.assertEqual(powers_of(roll, 'bo'), [(level, 10 - level) for level in range(1, 10)])

    def test_owners_and_names_that_do_not_occur(self):
        for at in [None, -BIG, 3, BIG]:
            self.assertEqual(powers_of(steps_roll(), 'ann', at=at), [(9, 20)])
            self.assertEqual(powers_of(steps_roll(), 'zoe', at=at), [(9, 20)])
            self.assertEqual(powers_of(steps_roll(), 'nobody', at=at), [])

    def test_grants_that_do_not_count(self):
        self.assertEqual([powers_of(four_roll(), name, at=2) for name in ('bo', 'cy', 'di')], [[(5, 2)], [(3, 1)], []])
        self.assertEqual(powers_of(Roll('zoe', grants=FOUR), 'bo'), [])

    def test_on_random_rolls(self):
        for roll in random_rolls(40, 11, seed=4) + dense_rolls(20, 14, seed=2):
            for name in [*roll.persons, 'nobody']:
                for at in [None, *range(-4, 10)]:
                    self.assertEqual(powers_of(roll, name, at=at), plain_powers(roll, name, at))

    def test_the_list_and_the_tuples_are_new_and_plain(self):
        roll = steps_roll()
        for name in ['bo', 'ann', 'nobody']:
            first = powers_of(roll, name)
            self.assertIs(type(first), list)
            self.assertEqual([type(power) for power in first], [tuple] * len(first))
            first.append(None)
            self.assertNotEqual(powers_of(roll, name), first)


class SinceTest(unittest.TestCase):
    def test_the_least_time(self):
        roll = steps_roll()
        for power, expected in [((5, 2), 2), ((4, 2), 2), (LEAST, 2), ((3, 3), 4), ((1, 6), 4), ((6, 1), 7),
                                ((6, 6), 7),
                                ((6, 7), None), ((7, 0), None), (GREATEST, None)]:
            with self.subTest(power=power):
                self.assertEqual(since(roll, 'bo', power), expected)

    def test_owners_and_names_that_do_not_occur(self):
        self.assertIsNone(since(steps_roll(), 'ann', LEAST))
        self.assertIsNone(since(steps_roll(), 'zoe', GREATEST))
        self.assertIsNone(since(steps_roll(), 'nobody', LEAST))

    def test_extreme_times_and_the_time_0(self):
        roll = Roll('ann', grants=[(-BIG, 'ann', 'bo', 1, 1), (BIG, 'ann', 'bo', 9, 20), (0, 'ann', 'cy', 2, 2)])
        self.assertEqual([since(roll, 'bo', LEAST), since(roll, 'bo', GREATEST), since(roll, 'cy', LEAST)],
                         [-BIG, BIG, 0])

    def test_it_is_the_first_time_at_which_has_holds(self):
        for roll in random_rolls(30, 11, seed=6) + dense_rolls(20, 14, seed=3):
            for name in [*roll.persons, 'nobody']:
                for power in [(1, 0), (2, 2), (3, 1), (2, 7)]:
                    times = [at for at in range(-5, 12) if has(roll, name, power, at=at)]
                    self.assertEqual(since(roll, name, power), min(times, default=None))


class StepsOfTest(unittest.TestCase):
    def test_a_grant_that_changes_nothing_is_no_step(self):
        self.assertEqual(steps_of(steps_roll(), 'bo'), [(2, [(5, 2)]), (4, [(3, 6), (5, 2)]), (7, [(6, 6)])])

    def test_the_same_pair_once_more_is_no_step(self):
        roll = Roll('ann', grants=[(1, 'ann', 'bo', 5, 2), (2, 'ann', 'bo', 5, 2), (3, 'ann', 'bo', 5, 3)])
        self.assertEqual(steps_of(roll, 'bo'), [(1, [(5, 2)]), (3, [(5, 3)])])

    def test_several_grants_of_one_time_are_one_step(self):
        roll = Roll('ann', 'zoe', grants=[(1, 'ann', 'bo', 1, 1), (1, 'ann', 'bo', 2, 2), (1, 'zoe', 'bo', 1, 5),
                                          (1, 'zoe', 'bo', 3, 3),
                                          (2, 'ann', 'bo', 4, 4), (2, 'zoe', 'bo', 4, 5)])
        self.assertEqual(steps_of(roll, 'bo'), [(1, [(1, 5), (3, 3)]), (2, [(4, 5)])])

    def test_it_begins_with_the_first_grant_that_counts(self):
        roll = Roll('ann', grants=[(-BIG, 'ann', 'bo', 1, 1), (BIG, 'ann', 'bo', 1, 2)])
        self.assertEqual(steps_of(roll, 'bo'), [(-BIG, [(1, 1)]), (BIG, [(1, 2)])])
        self.assertEqual(steps_of(four_roll(), 'di'), [(3, [(3, 0)])])

    def test_owners_and_names_without_grants(self):
        for name in ['ann', 'zoe', 'nobody']:
            self.assertEqual(steps_of(steps_roll(), name), [])
        self.assertEqual(steps_of(Roll('ann', grants=[(1, 'bo', 'cy', 1, 1)]), 'cy'), [])

    def test_against_powers_of_at_every_time(self):
        for roll in random_rolls(40, 11, seed=7) + dense_rolls(20, 14, seed=4):
            for name in [*roll.persons, 'nobody']:
                expected, before = [], []
                for at in range(-5, 12):
                    powers = plain_powers(roll, name, at)
                    if powers != before:
                        expected.append((at, powers))
                    before = powers
                self.assertEqual(steps_of(roll, name), expected)

    def test_the_lists_are_new_and_plain(self):
        roll = steps_roll()
        steps = steps_of(roll, 'bo')
        self.assertEqual([(type(step), type(step[1])) for step in steps], [(tuple, list)] * 3)
        self.assertEqual(len({id(step[1]) for step in steps}), 3)
        steps[0][1].clear()
        steps.clear()
        self.assertEqual(steps_of(roll, 'bo')[0], (2, [(5, 2)]))


class HoldersTest(unittest.TestCase):
    def test_at_times_and_at_the_end(self):
        roll = four_roll()
        for at, expected in [(0, []), (1, ['bo']), (2, ['bo', 'cy']), (3, ['bo', 'cy', 'di']),
                             (None, ['bo', 'cy', 'di'])]:
            with self.subTest(at=at):
                self.assertEqual(holders(roll, LEAST, at=at), expected)
        self.assertEqual([holders(roll, (3, 1)), holders(roll, (5, 2)), holders(roll, (5, 3))],
                         [['bo', 'cy'], ['bo'], []])

    def test_owners_are_not_among_them(self):
        self.assertEqual(holders(steps_roll(), LEAST), ['bo', 'cy'])
        self.assertEqual(holders(Roll('ann'), LEAST), [])

    def test_each_person_once_in_order(self):
        roll = Roll('ann', grants=[(2, 'ann', 'zed', 1, 1), (3, 'ann', 'zed', 1, 2), (4, 'ann', 'bo', 1, 1),
                                   (5, 'bo', 'al', 1, 0)])
        self.assertEqual(holders(roll, LEAST), ['al', 'bo', 'zed'])

    def test_they_are_those_who_have_it(self):
        for roll in random_rolls(30, 11, seed=8) + dense_rolls(20, 14, seed=5):
            for power in [(1, 0), (2, 2), (3, 1), (2, 7)]:
                for at in [None, -2, 0, 2, 5]:
                    expected = [name for name in roll.persons if has(roll, name, power, at=at)]
                    self.assertEqual(holders(roll, power, at=at), expected)

    def test_the_list_is_new(self):
        roll = four_roll()
        holders(roll, LEAST).clear()
        self.assertEqual(holders(roll, LEAST), ['bo', 'cy', 'di'])


class ErrorsTest(unittest.TestCase):
    def test_invalid_names_come_first(self):
        roll = four_roll()
        for name in NOT_NAMES:
            with self.subTest(name=name):
                check_error(self, InvalidName, [
                    lambda: has(roll, name, None), lambda: has(roll, name, LEAST),
                    lambda: has(roll, name, (1, 1), at='x'),
                    lambda: powers_of(roll, name), lambda: powers_of(roll, name, at='x'), lambda: steps_of(roll, name),
                    lambda: since(roll, name, LEAST), lambda: since(roll, name, None)])

    def test_invalid_powers_come_before_invalid_times(self):
        roll = four_roll()
        for power in NOT_POWERS:
            for name in ['bo', 'ann', 'nobody']:
                with self.subTest(name=name, power=power):
                    check_error(self, InvalidPower, [
                        lambda: has(roll, name, power), lambda: has(roll, name, power, at='x'),
                        lambda: since(roll, name, power),
                        lambda: holders(roll, power), lambda: holders(roll, power, at='x')])

    def test_invalid_times(self):
        roll = four_roll()
        for at in NOT_TIMES:
            for name in ['bo', 'ann', 'nobody']:
                with self.subTest(name=name, at=at):
                    check_error(self, InvalidTime, [
                        lambda: has(roll, name, LEAST, at=at), lambda: powers_of(roll, name, at=at),
                        lambda: holders(roll, LEAST, at=at)])

    def test_the_greatest_and_the_least_valid_values(self):
        roll = Roll('ann', grants=[(1, 'ann', 'abcdefgh', 9, 20)])
        for power in [(1, 0), (1, 20), (9, 0), (9, 20)]:
            self.assertIs(has(roll, 'abcdefgh', power, at=BIG), True)
            self.assertIs(has(roll, 'abcdefgh', power, at=-BIG), False)
            self.assertEqual(holders(roll, power), ['abcdefgh'])

    def test_names_of_the_arguments(self):
        roll = four_roll()
        self.assertEqual(powers_of(roll=roll, name='cy', at=2), [(3, 1)])
        self.assertEqual(since(roll=roll, name='cy', power=(3, 1)), 2)
        self.assertEqual(steps_of(roll=roll, name='cy'), [(2, [(3, 1)])])
        self.assertEqual(holders(roll=roll, power=(3, 1), at=1), ['bo'])
        for call in [lambda: powers_of(roll, 'cy', 2), lambda: holders(roll, (3, 1), 1)]:
            with self.assertRaises(TypeError):
                call()


if __name__ == '__main__':
    unittest.main()
