import random
import unittest
from itertools import combinations

from grantroll.errors import InvalidCount, InvalidName, InvalidPower, InvalidTime, OwnerPower
from grantroll.powers import has
from grantroll.rolls import Roll
from grantroll.strength import check_strength, keeps, strength
from tests.samples import (FOUR, HISTORY, NOT_NAMES, NOT_POWERS, NOT_TIMES, ODD_VALUES, braided_rolls, chains_back,
                           check_error, deep_value, dense_rolls, four_roll, history_roll, parts_of, plainly_counting,
                           random_rolls)

BIG = 10 ** 30
LEAST = (1, 0)
# Two separate chains for fy, over ed and over cy; a first one over bo and di must be turned off.
CROSSING = [(1, 'ann', 'bo', 5, 9), (1, 'ann', 'cy', 4, 9), (2, 'bo', 'di', 5, 8), (2, 'bo', 'ed', 4, 8),
            (2, 'cy', 'di', 3, 8),
            (3, 'di', 'fy', 3, 7), (3, 'ed', 'fy', 4, 7)]
SMALL = random_rolls(25, 9, seed=31) + dense_rolls(20, 10, seed=31) + braided_rolls(20, 10, seed=31)
NOT_COUNTS = [None, True, False, -1, -10 ** 999, '', '1', 'ann', (), [], (1,), [1], {}, {1: 1}, deep_value()]


def questions(roll):
    """Names, powers and times to ask a roll for."""
    for name in roll.persons:
        for power in [LEAST, (2, 2), (2, 9)]:
            for at in [None, 3]:
                yield name, power, at


def is_goal(grant, name, power, at):
    return (grant[2] == name and grant[3] >= power[0] and grant[4] >= power[1] and (at is None or grant[0] <= at))


def goals_that_count(roll, taken, name, power, at):
    held = plainly_counting(roll.owners, [grant for grant in roll.grants if grant not in taken])
    return [grant for grant in held if is_goal(grant, name, power, at)]


def least_cut(roll, name, power, at):
    """The fewest grants without which the person does not have the power, by trying all sets of grants."""
    for size in range(len(roll) + 1):
        for taken in combinations(roll.grants, size):
            if not goals_that_count(roll, taken, name, power, at):
                return size
    return None


def first_wrong(roll, name, power, answer, at):
    """The first thing that is wrong in an answer of two lists, as the document orders it."""
    listed, cut = answer
    ways = [way for goal in goals_that_count(roll, [], name, power, at) for way in chains_back(roll, goal)]
    for k, chain in enumerate(listed):
        if chain not in ways:
            return ('chain', k)
    for k, chain in enumerate(listed):
        if set(chain) & {grant for earlier in listed[:k] for grant in earlier}:
            return ('twice', k)
    if listed != sorted(listed):
        return ('order',)
    if [grant for grant in cut if grant not in roll.grants] or cut != sorted(set(cut)):
        return ('cut',)
    if goals_that_count(roll, cut, name, power, at):
        return ('open',)
    return None if len(listed) == len(cut) else ('many',)


class StrengthTest(unittest.TestCase):
    def test_as_many_chains_as_grants_in_the_cut(self):
        roll = history_roll()
        found, cut = strength(roll, 'cy', (2, 2))
        self.assertEqual(found, [HISTORY[:2], HISTORY[2:3]])
        self.assertIn(cut, [[HISTORY[0], HISTORY[2]], [HISTORY[1], HISTORY[2]]])
        self.assertEqual(strength(roll, 'cy', (3, 0))[0], [HISTORY[:2]])
        self.assertEqual(strength(roll, 'cy', (2, 2), at=2)[0], [HISTORY[:2]])
        self.assertEqual(strength(roll, 'cy', (2, 2), at=1), ([], []))
        self.assertEqual(strength(roll, 'bo', (5, 3)), ([HISTORY[:1]], HISTORY[:1]))

    def test_a_person_who_never_has_the_power(self):
        roll = four_roll()
        for name, power in [('di', (3, 1)), ('di', (4, 0)), ('nobody', LEAST), ('bo', (9, 20))]:
            self.assertEqual(strength(roll, name, power), ([], []))
            self.assertIsNone(check_strength(roll, name, power, ([], [])))
        self.assertEqual(strength(Roll('ann'), 'bo', LEAST), ([], []))

    def test_ways_that_cross(self):
        roll = Roll('ann', grants=CROSSING)
        found, cut = strength(roll, 'fy', LEAST)
        self.assertEqual(found, [[CROSSING[0], CROSSING[3], CROSSING[6]], [CROSSING[1], CROSSING[4], CROSSING[5]]])
        self.assertIsNone(check_strength(roll, 'fy', LEAST, (found, cut)))

    def test_a_way_that_must_be_turned_off_twice(self):
        # Two chains have no grant in common only if neither takes the straight way over all three persons.
        grants = [(1, 'ann', 'bo', 5, 9), (2, 'bo', 'cy', 5, 8), (3, 'cy', 'di', 5, 7), (4, 'di', 'goal', 5, 6),
                  (2, 'ann', 'cy', 4, 9), (2, 'bo', 'di', 4, 8), (4, 'cy', 'goal', 4, 6)]
        roll = Roll('ann', grants=grants)
        found, cut = strength(roll, 'goal', LEAST)
        self.assertEqual((len(found), len(cut)), (2, 2))
        self.assertIsNone(check_strength(roll, 'goal', LEAST, (found, cut)))

    def test_against_trying_all_sets(self):
        sizes = {}
        for roll in SMALL:
            for name, power, at in questions(roll):
                answer = strength(roll, name, power, at=at)
                self.assertIsNone(first_wrong(roll, name, power, answer, at))
                self.assertEqual(len(answer[1]), least_cut(roll, name, power, at))
                sizes[len(answer[1])] = True
        self.assertLessEqual({0, 1, 2, 3}, set(sizes))

    def test_wider_rolls_by_their_own_proof(self):
        # As many separate chains as grants in a cut: neither can be more, nor fewer.
        sizes = {}
        for roll in dense_rolls(40, 40, seed=32) + braided_rolls(40, 50, seed=32):
            for name in roll.persons:
                for power in [LEAST, (2, 8)]:
                    answer = strength(roll, name, power)
                    self.assertIsNone(check_strength(roll, name, power, answer))
                    sizes[len(answer[0])] = True
        self.assertGreater(max(sizes), 3)

    def test_sixty_grants_to_one_person(self):
        roll = Roll('ann', grants=[(k, 'ann', 'bo', 5, 5) for k in range(60)])
        self.assertEqual(strength(roll, 'bo', (5, 5)), ([[grant] for grant in roll.grants], list(roll.grants)))
        self.assertEqual(strength(roll, 'bo', (5, 5), at=9)[1], list(roll.grants[:10]))
        self.assertEqual([keeps(roll, 'bo', (5, 5), count) for count in (0, 59, 60)], [True, True, False])

    def test_extreme_times(self):
        grants = [(-BIG, 'ann', 'bo', 5, 5), (BIG, 'bo', 'cy', 5, 4), (BIG, 'ann', 'cy', 5, 4)]
        roll = Roll('ann', grants=grants)
        self.assertEqual(strength(roll, 'bo', (5, 5), at=-BIG), ([grants[:1]], grants[:1]))
        self.assertEqual(strength(roll, 'cy', (5, 4), at=BIG - 1), ([], []))
        self.assertEqual(len(strength(roll, 'cy', (5, 4), at=BIG)[0]), 2)

    def test_the_answer_is_new_and_plain(self):
        roll = history_roll()
        answer = strength(roll, 'cy', (2, 2))
        self.assertIs(type(answer), tuple)
        self.assertEqual([type(part) for part in [*answer, *answer[0]]], [list] * 4)
        again = strength(roll, 'cy', (2, 2))
        self.assertEqual(answer, again)
        for part in [*answer[0], *answer]:
            part.clear()
        self.assertEqual(strength(roll, 'cy', (2, 2)), again)


class CheckStrengthTest(unittest.TestCase):
    def check(self, answer, expected, name='cy', power=(2, 2), at=None, roll=None):
        with self.subTest(answer=answer):
            self.assertEqual(check_strength(roll or history_roll(), name, power, answer, at=at), expected)

    def test_right_answers(self):
        for cut in [[HISTORY[0], HISTORY[2]], [HISTORY[1], HISTORY[2]]]:
            self.check(([HISTORY[:2], HISTORY[2:3]], cut), None)
        self.check(([HISTORY[:2]], HISTORY[:1]), None, at=2)
        self.check(([], []), None, at=1)
        self.check(([], []), None, name='nobody')

    def test_no_answer(self):
        right = ([HISTORY[:2], HISTORY[2:3]], HISTORY[1:3])
        for value in [*ODD_VALUES, deep_value(), list(right), right[:1], (*right, []), (tuple(right[0]), right[1]),
                      (right[0], tuple(right[1])), ({}, {}), (None, right[1]), (right[0], None), {0: right}]:
            self.check(value, ('answer',))

    def test_wrong_chains(self):
        roll = history_roll()
        good, other, cut = HISTORY[:2], HISTORY[2:3], HISTORY[1:3]
        wrong = [[], None, tuple(good), HISTORY[0], HISTORY[1:2], HISTORY[:1], [HISTORY[2], HISTORY[3]],
                 [HISTORY[1], HISTORY[0]], good + other, [(True, *HISTORY[0][1:]), HISTORY[1]],
                 [(0, 'ann', 'cy', 2, 2)], *ODD_VALUES, deep_value()]
        for value in wrong:
            self.check(([value, other], cut), ('chain', 0), roll=roll)
            self.check(([good, value, value], cut), ('chain', 1), roll=roll)
            self.check(([good, other, good, value], ['no cut']), ('chain', 3), roll=roll)

    def test_the_end_of_a_chain(self):
        self.check(([HISTORY[2:3]], HISTORY[2:3]), ('chain', 0), power=(3, 0))
        self.check(([HISTORY[2:3]], HISTORY[2:3]), ('chain', 0), power=(2, 3))
        self.check(([HISTORY[2:3]], HISTORY[2:3]), ('chain', 0), at=2)
        self.check(([HISTORY[2:3]], HISTORY[2:3]), ('chain', 0), name='di', power=LEAST)
        self.check(([HISTORY[2:3]], HISTORY[2:3]), ('open',), at=3)

    def test_a_grant_in_two_chains(self):
        grants = [(1, 'ann', 'bo', 5, 5), (2, 'bo', 'cy', 5, 4), (3, 'bo', 'cy', 5, 4), (4, 'ann', 'cy', 5, 4)]
        roll = Roll('ann', grants=grants)
        ways = [[grants[0], grants[1]], [grants[0], grants[2]], [grants[3]]]
        for listed, k in [([ways[0], ways[1]], 1), ([ways[0], ways[2], ways[1]], 2), ([ways[2], ways[2]], 1),
                          ([ways[2], ways[0], ways[2], ways[1]], 2)]:
            self.check((listed, ['no cut']), ('twice', k), roll=roll)

    def test_the_order_of_the_chains(self):
        self.check(([HISTORY[2:3], HISTORY[:2]], ['no cut']), ('order',))
        self.check(([HISTORY[2:3], HISTORY[:2]], HISTORY[1:3]), ('order',))

    def test_wrong_cuts(self):
        listed = [HISTORY[:2], HISTORY[2:3]]
        for cut in [[HISTORY[2], HISTORY[1]], [HISTORY[1], HISTORY[1]], [HISTORY[1], HISTORY[2], HISTORY[2]], [None],
                    HISTORY[1:3] + [None], [HISTORY[1], (9, 'ann', 'cy', 2, 2)],
                    [(True, *HISTORY[0][1:]), HISTORY[2]], [list(HISTORY[0]), HISTORY[2]],
                    ODD_VALUES, deep_value(), [[HISTORY[1], HISTORY[2]]]]:
            self.check((listed, cut), ('cut',))

    def test_cuts_that_leave_the_power(self):
        listed = [HISTORY[:2], HISTORY[2:3]]
        for cut in [[], HISTORY[:1], HISTORY[:2], HISTORY[2:3], HISTORY[2:], [HISTORY[0], HISTORY[3]]]:
            self.check((listed, cut), ('open',))

    def test_lists_of_different_lengths(self):
        listed = [HISTORY[:2], HISTORY[2:3]]
        for cut in [HISTORY[:3], HISTORY[1:], HISTORY]:
            self.check((listed, cut), ('many',))
        for fewer in [[], listed[:1], listed[1:]]:
            self.check((fewer, HISTORY[1:3]), ('many',))

    def test_a_cut_with_grants_that_do_not_count(self):
        self.check(([[FOUR[0], FOUR[2], FOUR[3]]], FOUR[1:2]), ('open',), name='di', power=LEAST, roll=four_roll())
        self.check(([[FOUR[0], FOUR[2], FOUR[3]]], FOUR[:2]), ('many',), name='di', power=LEAST, roll=four_roll())

    def test_answers_changed_in_many_ways(self):
        chance = random.Random(33)
        words = {}
        for roll in SMALL:
            for name, power, at in questions(roll):
                ways = [way for goal in goals_that_count(roll, [], name, power, at) for way in chains_back(roll, goal)]
                listed, cut = strength(roll, name, power, at=at)
                for _ in range(6):
                    some = chance.sample(ways, min(len(ways), chance.randint(0, 3)))
                    some = chance.choice([some, sorted(some), listed, listed, listed[1:], listed[::-1],
                                          listed + listed])
                    taken = chance.sample(roll.grants, min(len(roll), chance.randint(0, 4)))
                    taken = chance.choice([taken, sorted(taken), sorted(taken), cut, cut, cut[1:], cut + cut])
                    expected = first_wrong(roll, name, power, (some, taken), at)
                    self.assertEqual(check_strength(roll, name, power, (some, taken), at=at), expected)
                    words[expected and expected[0]] = True
        self.assertEqual(set(words), {None, 'twice', 'order', 'cut', 'open', 'many'})

    def test_the_answer_is_not_modified(self):
        roll = history_roll()
        answer = strength(roll, 'cy', (2, 2))
        check_strength(roll, 'cy', (2, 2), answer)
        self.assertEqual(answer, strength(roll, 'cy', (2, 2)))

    def test_long_answers(self):
        roll = history_roll()
        self.check(([HISTORY[:2]] * 900, []), ('twice', 1), roll=roll)
        self.check(([], [HISTORY[0]] * 900), ('cut',), roll=roll)
        self.check(([HISTORY[:1] * 900], []), ('chain', 0), roll=roll)


class KeepsTest(unittest.TestCase):
    def test_below_at_and_above_the_least_number(self):
        roll = history_roll()
        for name, power, at, least in [('cy', (2, 2), None, 2), ('cy', (2, 2), 2, 1), ('cy', (2, 2), 1, 0),
                                       ('di', LEAST, None, 1),
                                       ('nobody', LEAST, None, 0), ('cy', (4, 2), None, 1)]:
            for count in range(5):
                with self.subTest(name=name, at=at, count=count):
                    self.assertIs(keeps(roll, name, power, count, at=at), count < least)
            self.assertIs(keeps(roll, name, power, 10 ** 999, at=at), False)

    def test_against_taking_out_all_sets(self):
        for roll in SMALL[::4]:
            for name, power, at in questions(roll):
                for count in range(3):
                    expected = all(goals_that_count(roll, taken, name, power, at)
                                   for taken in parts_of(roll.grants) if len(taken) <= count)
                    self.assertIs(keeps(roll, name, power, count, at=at), expected)

    def test_with_no_grant_taken_out_it_is_has(self):
        for roll in SMALL:
            for name, power, at in questions(roll):
                self.assertIs(keeps(roll, name, power, 0, at=at), has(roll, name, power, at=at))


class ErrorsTest(unittest.TestCase):
    def calls(self, name, power, at, count=0):
        roll = four_roll()
        return [lambda: strength(roll, name, power, at=at), lambda: check_strength(roll, name, power, None, at=at),
                lambda: check_strength(roll, name, power, ([], []), at=at),
                lambda: keeps(roll, name, power, count, at=at)]

    def test_invalid_names_come_first(self):
        for name in NOT_NAMES:
            check_error(self, InvalidName, self.calls(name, LEAST, None))
            check_error(self, InvalidName, self.calls(name, None, 'x', None))

    def test_owners_come_second(self):
        for power in [LEAST, *NOT_POWERS]:
            check_error(self, OwnerPower, self.calls('ann', power, None))
            check_error(self, OwnerPower, self.calls('ann', power, 'x', None))

    def test_invalid_powers_come_third(self):
        for power in NOT_POWERS:
            for name in ['bo', 'nobody']:
                check_error(self, InvalidPower, self.calls(name, power, None))
                check_error(self, InvalidPower, self.calls(name, power, 'x', None))

    def test_invalid_times_come_fourth(self):
        for at in NOT_TIMES:
            for name in ['bo', 'nobody']:
                check_error(self, InvalidTime, self.calls(name, LEAST, at))
                check_error(self, InvalidTime, self.calls(name, LEAST, at, None))

    def test_invalid_counts_come_last(self):
        for count in NOT_COUNTS:
            for name in ['bo', 'nobody']:
                with self.assertRaises(InvalidCount) as caught:
                    keeps(four_roll(), name, LEAST, count, at=3)
                self.assertIs(caught.exception.count, count)

    def test_names_of_the_arguments(self):
        roll = history_roll()
        answer = strength(roll=roll, name='cy', power=(2, 2), at=2)
        self.assertEqual(answer[0], [HISTORY[:2]])
        self.assertIsNone(check_strength(roll=roll, name='cy', power=(2, 2), answer=answer, at=2))
        self.assertIs(keeps(roll=roll, name='cy', power=(2, 2), count=1, at=2), False)
        for call in [lambda: strength(roll, 'cy', (2, 2), 2), lambda: check_strength(roll, 'cy', (2, 2), answer, 2),
                     lambda: keeps(roll, 'cy', (2, 2), 1, 2)]:
            with self.assertRaises(TypeError):
                call()


if __name__ == '__main__':
    unittest.main()
