import time
import unittest
from itertools import permutations

from grantroll.counting import counting_grants
from grantroll.errors import InvalidGrants, InvalidIndex, NotStanding, TooMany, UnknownGrant
from grantroll.rolls import Roll
from grantroll.standing import (build_orders, is_standing, minimal_sets, standing_at, standing_count, standing_index,
                                standing_part)
from tests.samples import (FOUR, HISTORY, NOT_LISTS, ODD_VALUES, all_chains, braided_rolls, check_error,
                           circling_rolls, deep_value, dense_rolls, four_roll, history_roll, layered_roll, layers,
                           parts_of, person, plainly_counting, random_rolls)

SMALL = [roll for kind in (random_rolls, dense_rolls, braided_rolls, circling_rolls) for roll in kind(12, 8, seed=51)]
NOT_INDEXES = [None, True, False, -1, 10 ** 999, -10 ** 999, '', '0', 'ann', (), [], (0,), [0], {}, {0: 0},
               deep_value()]


def fan(many, others=0):
    """A roll in which so many grants of the owner count, and so many others do not."""
    grants = [(1, 'ann', person(k), 1, 1) for k in range(many)] + [(1, 'bo', person(k), 1, 1) for k in range(others)]
    return Roll('ann', grants=grants)


def row(many):
    """A roll in which each grant but the first hangs on the one before it."""
    return Roll('ann', grants=[(k, 'ann' if k == 0 else person(k), person(k + 1), 1, 20 - k) for k in range(many)])


def all_standing(roll):
    """Every standing set, in the order of ascending lists, found by trying all sets of grants."""
    return sorted(part for part in parts_of(roll.grants) if plainly_counting(roll.owners, part) == part)


def answers(roll, grant, grants, index):
    """What calls with more than 12 grants that count are, with these arguments."""
    return [lambda: standing_count(roll), lambda: standing_at(roll, index), lambda: standing_index(roll, grants),
            lambda: build_orders(roll), lambda: next(minimal_sets(roll, grant), None)]


class StandingTest(unittest.TestCase):
    def test_sets_that_stand(self):
        roll = history_roll()
        for part in [[], (), HISTORY, HISTORY[:2], HISTORY[1::-1], HISTORY[2:], HISTORY[2:] * 30, tuple(HISTORY[:1])]:
            self.assertIs(is_standing(roll, part), True)
        for part in [HISTORY[1:2], HISTORY[1:], [HISTORY[0], HISTORY[3]], HISTORY[1:2] * 2, tuple(HISTORY[3:])]:
            self.assertIs(is_standing(roll, part), False)
        self.assertIs(is_standing(four_roll(), FOUR), False)
        self.assertIs(is_standing(Roll('ann'), []), True)

    def test_the_greatest_part_that_stands(self):
        roll = history_roll()
        self.assertEqual(standing_part(roll, HISTORY[1:]), HISTORY[2:])
        self.assertEqual(standing_part(roll, HISTORY[::-1] * 20), HISTORY)
        self.assertEqual(standing_part(roll, (HISTORY[3], HISTORY[0], HISTORY[0])), HISTORY[:1])
        self.assertEqual(standing_part(roll, [HISTORY[1], HISTORY[3]]), [])
        self.assertEqual(standing_part(roll, []), [])
        self.assertEqual(standing_part(four_roll(), FOUR), [FOUR[0], FOUR[2], FOUR[3]])

    def test_against_all_standing_sets(self):
        for roll in SMALL:
            stand = all_standing(roll)
            for part in parts_of(roll.grants):
                self.assertIs(is_standing(roll, part), part in stand)
                inside = [some for some in stand if set(some) <= set(part)]
                found = standing_part(roll, part[::-1])
                # The greatest one contains all others, and is the union of all of them.
                self.assertIn(found, inside)
                self.assertEqual(found, sorted({grant for some in inside for grant in some}))

    def test_errors(self):
        roll = history_roll()
        for call in [is_standing, standing_part, standing_index]:
            check_error(self, InvalidGrants, [lambda: call(roll, value) for value in NOT_LISTS])
            for value in [each for each in ODD_VALUES if each != HISTORY[0]] + [deep_value(), FOUR[0]]:
                for grants in [[value], (HISTORY[0], value, 'ann'), [HISTORY[1], value]]:
                    with self.assertRaises(UnknownGrant) as caught:
                        call(roll, grants)
                    self.assertIs(caught.exception.grant, value)


class OrderTest(unittest.TestCase):
    def test_count_and_order(self):
        roll = history_roll()
        first, second, third, fourth = HISTORY
        expected = [[], [first], [first, second], [first, second, third], HISTORY, [first, second, fourth],
                    [first, third], [first, third, fourth], [third], [third, fourth]]
        self.assertEqual(standing_count(roll), 10)
        self.assertEqual([standing_at(roll, index) for index in range(10)], expected)
        self.assertEqual([standing_index(roll, part) for part in expected], list(range(10)))

    def test_against_all_sets(self):
        for roll in SMALL:
            stand = all_standing(roll)
            self.assertEqual(standing_count(roll), len(stand))
            for index, part in enumerate(stand):
                self.assertEqual(standing_at(roll, index), part)
                self.assertEqual(standing_index(roll, part), index)
                self.assertEqual(standing_index(roll, tuple(part[::-1] * 2)), index)

    def test_no_grant_counts(self):
        for roll in [Roll('ann'), Roll('ann', grants=[(1, 'bo', 'cy', 1, 1)])]:
            self.assertEqual([standing_count(roll), standing_at(roll, 0), standing_index(roll, ())], [1, [], 0])
            check_error(self, InvalidIndex, [lambda: standing_at(roll, 1)])

    def test_indexes_that_are_none(self):
        roll = history_roll()
        for value in NOT_INDEXES + [10, 11]:
            with self.assertRaises(InvalidIndex) as caught:
                standing_at(roll, value)
            self.assertIs(caught.exception.index, value)
        self.assertEqual(standing_at(roll, 9), HISTORY[2:])

    def test_grants_that_do_not_stand(self):
        for roll in SMALL[::3]:
            stand = all_standing(roll)
            for part in parts_of(roll.grants):
                if part not in stand:
                    check_error(self, NotStanding, [lambda: standing_index(roll, part)])
        # Unknown grants come first, wherever they are.
        check_error(self, UnknownGrant, [lambda: standing_index(history_roll(), HISTORY[1:2] + [None])])


class BuildOrdersTest(unittest.TestCase):
    def test_orders(self):
        self.assertEqual(build_orders(history_roll()), 7)
        self.assertEqual(build_orders(four_roll()), 1)
        self.assertEqual(build_orders(Roll('ann')), 1)
        self.assertEqual(build_orders(Roll('ann', grants=[(1, 'bo', 'cy', 1, 1)])), 1)
        self.assertEqual([build_orders(fan(many, 3)) for many in range(6)], [1, 1, 2, 6, 24, 120])

    def test_against_all_orders(self):
        for roll in [roll for roll in SMALL if len(counting_grants(roll)) < 7]:
            held = plainly_counting(roll.owners, roll.grants)
            many = sum(all(len(plainly_counting(roll.owners, order[:size])) == size for size in range(len(order)))
                       for order in permutations(held))
            self.assertEqual(build_orders(roll), many)


class MinimalSetsTest(unittest.TestCase):
    def test_least_chains(self):
        roll = history_roll()
        self.assertEqual(list(minimal_sets(roll, HISTORY[3])), [HISTORY[:2] + HISTORY[3:], HISTORY[2:]])
        self.assertEqual(list(minimal_sets(roll, HISTORY[0])), [HISTORY[:1]])
        self.assertEqual(list(minimal_sets(four_roll(), FOUR[1])), [])

    def test_a_chain_that_goes_in_a_circle(self):
        grants = [(1, 'ann', 'bo', 1, 9), (2, 'bo', 'cy', 1, 8), (3, 'cy', 'bo', 1, 7), (4, 'bo', 'di', 1, 6),
                  (5, 'bo', 'cy', 1, 5)]
        roll = Roll('ann', grants=grants)
        self.assertEqual(list(minimal_sets(roll, grants[3])), [[grants[0], grants[3]]])
        # An earlier grant to the taker of the grant itself may be on the way to it.
        self.assertEqual(list(minimal_sets(roll, grants[2])), [grants[:3]])
        self.assertEqual(list(minimal_sets(roll.only(grants[1:]), grants[3])), [])

    def test_against_all_standing_sets(self):
        many = {}
        for roll in SMALL + circling_rolls(20, 10, seed=52):
            stand = all_standing(roll)
            for grant in roll.grants:
                inside = [part for part in stand if grant in part]
                least = [part for part in inside if not [some for some in inside if set(some) < set(part)]]
                found = list(minimal_sets(roll, grant))
                self.assertEqual(found, least)
                ways = all_chains(roll, grant)
                self.assertEqual(found, [way for way in ways if not [one for one in ways if set(one) < set(way)]])
                many[len(found)] = many[len(ways) - len(found), 'left out'] = True
        self.assertLessEqual({0, 1, 2, 3, (0, 'left out'), (1, 'left out')}, set(many))

    def test_errors(self):
        for value in ODD_VALUES + [deep_value(), FOUR[0]]:
            with self.assertRaises(UnknownGrant) as caught:
                next(minimal_sets(history_roll(), value))
            self.assertIs(caught.exception.grant, value)


class TooManyTest(unittest.TestCase):
    def test_twelve_and_thirteen(self):
        grants = [(1, 'ann', person(k), 1, 1) for k in range(12)]
        for others in (0, 26):
            roll = fan(12, others)
            self.assertEqual([standing_count(roll), build_orders(roll)], [4096, 479001600])
            self.assertEqual([standing_at(roll, index) for index in (0, 12, 4095)], [[], grants, grants[11:]])
            self.assertEqual([standing_index(roll, part) for part in ([], grants, grants[11:])], [0, 12, 4095])
            self.assertEqual(list(minimal_sets(roll, grants[11])), [grants[11:]])
            for wrong in (4096, -1):
                check_error(self, InvalidIndex, [lambda: standing_at(roll, wrong)])
        for many in (13, 26):
            for others in (0, 20):
                for call in answers(fan(many, others), grants[0], [grants[0]], 0):
                    with self.assertRaises(TooMany) as caught:
                        call()
                    self.assertEqual(caught.exception.count, many)

    def test_too_many_before_any_other_error(self):
        roll = fan(13)
        for value in ODD_VALUES + NOT_INDEXES + NOT_LISTS + [[None], FOUR[:1], [(1, 'bo', 'cy', 1, 1)]]:
            check_error(self, TooMany, answers(roll, value, value, value))

    def test_the_other_functions_take_any_number(self):
        roll = layered_roll(layers())
        self.assertIs(is_standing(roll, roll.grants), True)
        self.assertEqual(standing_part(roll, roll.grants), list(roll.grants))
        self.assertIs(is_standing(roll, roll.grants[3:]), False)
        self.assertEqual(standing_part(roll, roll.grants[3:]), [])
        for call in answers(roll, roll.grants[0], [], 0):
            with self.assertRaises(TooMany) as caught:
                call()
            self.assertEqual(caught.exception.count, 60)

    def test_each_within_a_moment(self):
        begin = time.perf_counter()
        many = [(9, 'zoe', person(k), 1, k // 26) for k in range(26)] + [(8, 'zoe', person(k), 1, 2) for k in range(22)]
        for small in [fan(12), row(12), layered_roll(layers(4))]:
            roll = small | Roll('ann', grants=many)
            self.assertEqual(len(roll), 60)
            self.assertEqual(build_orders(roll), build_orders(small))
            for index in [0, standing_count(roll) // 2, standing_count(roll) - 1]:
                self.assertEqual(standing_index(roll, standing_at(roll, index)), index)
            for grant in small.grants:
                self.assertTrue(list(minimal_sets(roll, grant)))
        self.assertEqual([standing_count(row(12)), build_orders(row(12))], [13, 1])
        self.assertEqual(len(list(minimal_sets(layered_roll(layers(4)), layers(4)[3][0]))), 27)
        self.assertLess(time.perf_counter() - begin, 5)


if __name__ == '__main__':
    unittest.main()
