import unittest
from itertools import permutations

from grantroll.counting import counting_grants
from grantroll.errors import InvalidGrants, UnknownGrant
from grantroll.powers import powers_of
from grantroll.revoking import lost_by, lost_powers, shortest, without
from grantroll.rolls import Roll
from tests.samples import (FOUR, HISTORY, NOT_LISTS, ODD_VALUES, braided_rolls, deep_value, dense_rolls, four_roll,
                           history_roll, parts_of, plainly_counting, plainly_supports, random_rolls)

FUNCTIONS = [without, shortest, lost_by, lost_powers]
SMALL = random_rolls(25, 7, seed=11) + dense_rolls(12, 7, seed=11) + braided_rolls(12, 7, seed=11)


def history_without(roll, grants):
    """Goes through the other grants time by time and refuses what does not count then."""
    held = []
    rest = [grant for grant in roll.grants if grant not in grants]
    for time in sorted({grant[0] for grant in rest}):
        held += [grant for grant in rest if grant[0] == time
                 and (grant[1] in roll.owners or any(plainly_supports(earlier, grant) for earlier in list(held)))]
    return Roll(*roll.owners, grants=held)


class WithoutTest(unittest.TestCase):
    def test_what_hangs_on_a_grant_goes_with_it(self):
        roll = history_roll()
        self.assertEqual(without(roll, HISTORY[:1]), Roll('ann', grants=HISTORY[2:]))
        self.assertEqual(without(roll, HISTORY[1:2]), Roll('ann', grants=[HISTORY[0], HISTORY[2], HISTORY[3]]))
        self.assertEqual(without(roll, HISTORY[2:3]), Roll('ann', grants=[HISTORY[0], HISTORY[1], HISTORY[3]]))
        self.assertEqual(without(roll, [HISTORY[0], HISTORY[2]]), Roll('ann'))

    def test_grants_that_do_not_count_go_too(self):
        self.assertEqual(without(four_roll(), []), Roll('ann', grants=[FOUR[0], FOUR[2], FOUR[3]]))
        self.assertEqual(without(four_roll(), FOUR[1:2]), without(four_roll(), ()))
        self.assertEqual(without(Roll('zoe', 'ann'), []), Roll('ann', 'zoe'))

    def test_a_grant_does_not_count_again_because_of_a_later_one(self):
        grants = [(1, 'ann', 'bo', 5, 5), (2, 'bo', 'cy', 5, 4), (3, 'ann', 'bo', 9, 9), (4, 'bo', 'cy', 5, 4)]
        roll = Roll('ann', grants=grants)
        self.assertEqual(without(roll, grants[:1]), Roll('ann', grants=grants[2:]))

    def test_against_the_history_without_them(self):
        for roll in SMALL:
            for part in parts_of(roll.grants):
                left = without(roll, part)
                self.assertEqual(left, history_without(roll, part))
                rest = [grant for grant in roll.grants if grant not in part]
                self.assertEqual(list(left.grants), plainly_counting(roll.owners, rest))

    def test_in_one_step_and_in_two(self):
        for roll in SMALL[::3]:
            for first in parts_of(roll.grants):
                left = without(roll, first)
                for second in parts_of(left.grants):
                    self.assertEqual(without(left, second), without(roll, first + second))

    def test_the_roll_is_not_changed(self):
        roll = history_roll()
        part = [HISTORY[1], HISTORY[0]]
        without(roll, part)
        self.assertEqual(roll, history_roll())
        self.assertEqual(part, [HISTORY[1], HISTORY[0]])
        self.assertIsInstance(without(roll, part), Roll)


class ShortestTest(unittest.TestCase):
    def test_grants_that_are_gone_anyway(self):
        roll = history_roll()
        self.assertEqual(shortest(roll, HISTORY[:2]), HISTORY[:1])
        self.assertEqual(shortest(roll, HISTORY), [HISTORY[0], HISTORY[2]])
        self.assertEqual(shortest(roll, HISTORY[1:]), HISTORY[1:3])
        self.assertEqual(shortest(roll, []), [])

    def test_grants_that_do_not_count(self):
        self.assertEqual(shortest(four_roll(), FOUR[1:2]), [])
        self.assertEqual(shortest(four_roll(), FOUR), FOUR[:1])
        # Its giver is a person, and the roll has what would support it, if it came earlier.
        roll = Roll('ann', grants=[(5, 'ann', 'bo', 5, 5), (4, 'bo', 'cy', 1, 1)])
        self.assertEqual(shortest(roll, [(4, 'bo', 'cy', 1, 1)]), [])

    def test_a_grant_with_another_supporter_stays_in_the_list(self):
        grants = [(1, 'ann', 'bo', 5, 5), (2, 'ann', 'bo', 5, 5), (3, 'bo', 'cy', 5, 4)]
        roll = Roll('ann', grants=grants)
        self.assertEqual(shortest(roll, [grants[0], grants[2]]), [grants[0], grants[2]])
        self.assertEqual(shortest(roll, grants), grants[:2])

    def test_every_list_with_the_same_result_contains_it(self):
        for roll in SMALL:
            parts = parts_of(roll.grants)
            results = [without(roll, part) for part in parts]
            for part, left in zip(parts, results):
                short = shortest(roll, part)
                self.assertEqual(short, sorted(short))
                self.assertEqual(without(roll, short), left)
                for other, result in zip(parts, results):
                    if result == left:
                        self.assertLessEqual(set(short), set(other))

    def test_one_after_the_other_in_any_order(self):
        for roll in SMALL[::2]:
            for part in parts_of(roll.grants):
                short = shortest(roll, part)
                for order in list(permutations(short))[:24]:
                    left = without(roll, [])
                    for grant in order:
                        self.assertIn(grant, left)
                        left = without(left, [grant])
                    self.assertEqual(left, without(roll, part))


class LostByTest(unittest.TestCase):
    def test_the_other_grants_that_no_longer_count(self):
        roll = history_roll()
        self.assertEqual(lost_by(roll, HISTORY[:1]), [HISTORY[1]])
        self.assertEqual(lost_by(roll, [HISTORY[0], HISTORY[2]]), [HISTORY[1], HISTORY[3]])
        self.assertEqual(lost_by(roll, [HISTORY[1], HISTORY[2]]), HISTORY[3:])
        self.assertEqual([lost_by(roll, HISTORY), lost_by(roll, []), lost_by(roll, HISTORY[2:3])], [[], [], []])

    def test_what_did_not_count_is_not_lost(self):
        self.assertEqual(lost_by(four_roll(), FOUR[:1]), FOUR[2:])
        self.assertEqual(lost_by(four_roll(), FOUR[1:2]), [])

    def test_against_what_counts_before_and_after(self):
        for roll in SMALL:
            held = plainly_counting(roll.owners, roll.grants)
            for part in parts_of(roll.grants):
                left = plainly_counting(roll.owners, [grant for grant in roll.grants if grant not in part])
                gone = [grant for grant in held if grant not in left and grant not in part]
                self.assertEqual(lost_by(roll, part), gone)


class LostPowersTest(unittest.TestCase):
    def test_powers_of_the_given_grants_and_of_those_that_go_with_them(self):
        roll = history_roll()
        self.assertEqual(lost_powers(roll, HISTORY[:1]), [('bo', 5, 3), ('cy', 4, 2)])
        self.assertEqual(lost_powers(roll, [HISTORY[0], HISTORY[2]]), [('bo', 5, 3), ('cy', 4, 2), ('di', 2, 1)])
        self.assertEqual([lost_powers(roll, HISTORY[2:3]), lost_powers(roll, [])], [[], []])

    def test_a_power_that_another_one_covers_is_not_lost(self):
        roll = Roll('ann', grants=[(1, 'ann', 'bo', 5, 2), (2, 'ann', 'bo', 5, 2), (3, 'ann', 'bo', 2, 4)])
        self.assertEqual(lost_powers(roll, roll.grants[:1]), [])
        self.assertEqual(lost_powers(roll, roll.grants[:2]), [('bo', 5, 2)])
        self.assertEqual(lost_powers(roll, roll.grants), [('bo', 2, 4), ('bo', 5, 2)])

    def test_a_power_that_was_not_maximal_is_not_told(self):
        roll = Roll('ann', grants=[(1, 'ann', 'bo', 5, 2), (2, 'ann', 'bo', 4, 2)])
        self.assertEqual(lost_powers(roll, roll.grants), [('bo', 5, 2)])
        self.assertEqual(lost_powers(roll, roll.grants[:1]), [('bo', 5, 2)])

    def test_against_powers_of(self):
        for roll in SMALL:
            for part in parts_of(roll.grants)[::3]:
                left = without(roll, part)
                expected = []
                for name in roll.persons:
                    kept = powers_of(left, name)
                    expected += [(name, *power) for power in powers_of(roll, name)
                                 if not any(other[0] >= power[0] and other[1] >= power[1] for other in kept)]
                self.assertEqual(lost_powers(roll, part), sorted(expected))


class ArgumentsTest(unittest.TestCase):
    def test_lists_in_any_order_with_repetitions_and_tuples(self):
        roll = history_roll()
        for function in FUNCTIONS:
            expected = function(roll, HISTORY[:3])
            for order in permutations(HISTORY[:3]):
                for value in [order, list(order), order + order, [*order, *reversed(order)] * 300]:
                    self.assertEqual(function(roll, value), expected)

    def test_arguments_are_not_modified(self):
        for function in FUNCTIONS:
            part = [HISTORY[2], HISTORY[0], HISTORY[2]]
            function(history_roll(), part)
            self.assertEqual(part, [HISTORY[2], HISTORY[0], HISTORY[2]])

    def test_answers_are_new_lists(self):
        roll = history_roll()
        for function in FUNCTIONS[1:]:
            answer = function(roll, HISTORY[:1])
            expected = list(answer)
            self.assertIs(type(answer), list)
            answer.clear()
            self.assertEqual(function(roll, HISTORY[:1]), expected)
        self.assertEqual(shortest(roll, HISTORY[:1]), HISTORY[:1])

    def test_invalid_grants(self):
        for function in FUNCTIONS:
            for value in NOT_LISTS:
                with self.subTest(function=function.__name__, value=value):
                    with self.assertRaises(InvalidGrants):
                        function(history_roll(), value)

    def test_the_first_unknown_grant(self):
        unknown = [*ODD_VALUES, deep_value(), (9, 'ann', 'bo', 5, 2), (True, *HISTORY[0][1:]), list(HISTORY[0]),
                   HISTORY[0][:4]]
        for function in FUNCTIONS:
            for value in unknown:
                for grants in [[value], (value,), [HISTORY[0], value, 'later'], [HISTORY[0], HISTORY[0], value]]:
                    with self.subTest(function=function.__name__, grants=grants):
                        with self.assertRaises(UnknownGrant) as caught:
                            function(history_roll(), grants)
                        self.assertIs(caught.exception.grant, value)

    def test_names_of_the_arguments(self):
        for function in FUNCTIONS:
            self.assertEqual(function(roll=history_roll(), grants=HISTORY[:1]), function(history_roll(), HISTORY[:1]))


class GuaranteeTest(unittest.TestCase):
    def test_what_remains_counts(self):
        for roll in SMALL:
            for part in parts_of(roll.grants)[::5]:
                left = without(roll, part)
                self.assertEqual(tuple(counting_grants(left)), left.grants)
                self.assertEqual(left.owners, roll.owners)


if __name__ == '__main__':
    unittest.main()
