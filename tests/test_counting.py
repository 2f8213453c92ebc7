import time
import types
import unittest
from itertools import islice

from grantroll.counting import chain_count, chains, counting_grants, counts, shows, why
from grantroll.errors import UnknownGrant
from grantroll.rolls import Roll
from tests.samples import (FOUR, ODD_VALUES, all_chains, all_closed_sets, deep_value, four_roll, layered_roll, layers,
                           random_rolls)

BIG = 10 ** 30
# Two ways from ann to di, and one grant to ed that does not count.
WIDE = [(1, 'ann', 'bo', 5, 4), (1, 'ann', 'cy', 4, 4), (2, 'bo', 'di', 4, 2), (2, 'cy', 'di', 4, 3),
        (3, 'di', 'ed', 4, 1), (3, 'di', 'ed', 5, 1)]


class CountsTest(unittest.TestCase):
    def test_grants_of_owners_count(self):
        grants = [(-BIG, 'ann', 'bo', 9, 20), (BIG, 'ann', 'bo', 1, 0), (0, 'zoe', 'bo', 5, 20)]
        roll = Roll('ann', 'zoe', grants=grants)
        self.assertEqual([counts(roll, grant) for grant in grants], [True, True, True])

    def test_grants_that_another_one_supports(self):
        self.assertEqual([counts(four_roll(), grant) for grant in FOUR], [True, False, True, True])

    def test_who_supports_must_count_itself(self):
        grants = [(1, 'bo', 'cy', 5, 5), (2, 'cy', 'di', 4, 4), (3, 'di', 'ed', 3, 3)]
        roll = Roll('ann', grants=grants)
        self.assertEqual([counts(roll, grant) for grant in grants], [False, False, False])
        self.assertEqual(counting_grants(roll), [])
        wider = Roll('ann', grants=[*grants, (0, 'ann', 'bo', 5, 6)])
        self.assertEqual(counting_grants(wider), [(0, 'ann', 'bo', 5, 6), *grants])

    def test_circles_do_not_count(self):
        roll = Roll('ann', grants=[(1, 'bo', 'cy', 5, 5), (2, 'cy', 'bo', 5, 4), (3, 'bo', 'cy', 5, 3)])
        self.assertEqual(counting_grants(roll), [])

    def test_each_condition_of_supporting(self):
        first = (1, 'ann', 'bo', 5, 2)
        for second, expected in [((2, 'bo', 'cy', 5, 1), True), ((1, 'bo', 'cy', 5, 1), False), ((2, 'bo', 'cy', 6, 1), False),
                                 ((2, 'bo', 'cy', 5, 2), False), ((2, 'di', 'cy', 5, 1), False)]:
            with self.subTest(second=second):
                self.assertIs(counts(Roll('ann', grants=[second, first]), second), expected)

    def test_grants_of_others_that_never_count(self):
        for grant in [(5, 'bo', 'cy', 1, 20), (-BIG, 'bo', 'cy', 1, 0)]:
            roll = Roll('ann', grants=[(-BIG, 'ann', 'bo', 9, 20), (0, 'ann', 'bo', 9, 20), grant])
            self.assertIs(counts(roll, grant), False)

    def test_an_owner_without_grants_and_a_roll_without_grants(self):
        self.assertEqual(counting_grants(Roll('ann')), [])
        self.assertEqual(counting_grants(Roll('zoe', grants=FOUR)), [])

    def test_counting_grants_is_a_new_ascending_list(self):
        roll = four_roll()
        first, second = counting_grants(roll), counting_grants(roll)
        self.assertEqual(first, [FOUR[0], FOUR[2], FOUR[3]])
        self.assertIsNot(first, second)
        first.clear()
        self.assertEqual(counting_grants(roll), second)
        self.assertEqual(roll, four_roll())


class ChainsTest(unittest.TestCase):
    def test_ascending_order_of_lists(self):
        roll = Roll('ann', grants=WIDE)
        self.assertEqual(list(chains(roll, WIDE[4])), [[WIDE[0], WIDE[2], WIDE[4]], [WIDE[1], WIDE[3], WIDE[4]]])
        self.assertEqual(list(chains(roll, WIDE[0])), [[WIDE[0]]])
        self.assertEqual(list(chains(roll, WIDE[5])), [])

    def test_a_longer_chain_may_come_first(self):
        grants = [(1, 'ann', 'bo', 5, 4), (2, 'bo', 'cy', 5, 3), (3, 'ann', 'cy', 5, 3), (4, 'cy', 'di', 5, 1)]
        roll = Roll('ann', grants=grants)
        self.assertEqual(list(chains(roll, grants[3])), [[grants[0], grants[1], grants[3]], [grants[2], grants[3]]])

    def test_against_every_list_of_grants(self):
        for roll in random_rolls(60, 11):
            for grant in roll.grants:
                expected = all_chains(roll, grant)
                self.assertEqual(list(chains(roll, grant)), expected)
                self.assertEqual(chain_count(roll, grant), len(expected))
                self.assertIs(counts(roll, grant), len(expected) > 0)
            self.assertEqual(counting_grants(roll), [grant for grant in roll.grants if all_chains(roll, grant)])

    def test_a_chain_of_twenty_one_grants(self):
        grants = [row[0] for row in layers(many=20, wide=1)]
        grants.append((20, grants[-1][2], 'end', 1, 0))
        roll = Roll('ann', grants=grants)
        self.assertEqual(list(chains(roll, grants[20])), [grants])

    def test_it_is_a_generator_of_new_lists(self):
        roll = Roll('ann', grants=WIDE)
        found = chains(roll, WIDE[4])
        self.assertIsInstance(found, types.GeneratorType)
        first = next(found)
        self.assertIs(type(first), list)
        first.clear()
        second = next(found)
        self.assertEqual(second, [WIDE[1], WIDE[3], WIDE[4]])
        second.append(None)
        self.assertEqual(list(found), [])
        self.assertEqual(len(list(chains(roll, WIDE[4]))[0]), 3)

    def test_two_generators_side_by_side(self):
        rows = layers(many=6)
        roll = layered_roll(rows)
        one, other = chains(roll, rows[5][0]), chains(roll, rows[5][0])
        early = [next(one) for _ in range(10)]
        pairs = [(next(one), next(other)) for _ in range(10)]
        self.assertEqual([pair[1] for pair in pairs], early)
        self.assertEqual(early + [pair[0] for pair in pairs] + list(one), list(chains(roll, rows[5][0])))

    def test_equal_calls_give_equal_answers(self):
        roll = Roll('ann', grants=WIDE)
        again = Roll('ann', grants=list(reversed(WIDE)))
        self.assertEqual(list(chains(roll, WIDE[4])), list(chains(again, WIDE[4])))
        self.assertEqual(why(roll, WIDE[5]), why(again, WIDE[5]))

    def test_chain_count(self):
        roll = Roll('ann', grants=WIDE)
        self.assertEqual([chain_count(roll, grant) for grant in WIDE], [1, 1, 1, 1, 2, 0])


class LayersTest(unittest.TestCase):
    """60 grants in twenty layers of three, with 3 ** 19 chains for each grant of the last layer."""

    def setUp(self):
        self.rows = layers()
        self.roll = layered_roll(self.rows)
        self.begin = time.perf_counter()

    def tearDown(self):
        # Far more than is needed, and far less than going through the chains would take.
        self.assertLess(time.perf_counter() - self.begin, 5)

    def test_chain_count(self):
        self.assertEqual(len(self.roll), 60)
        for layer, row in enumerate(self.rows):
            for grant in row:
                self.assertEqual(chain_count(self.roll, grant), 3 ** layer)

    def test_the_first_chains(self):
        for last in self.rows[-1]:
            firsts = list(islice(chains(self.roll, last), 200))
            self.assertEqual(firsts[0], [row[0] for row in self.rows[:-1]] + [last])
            self.assertEqual(firsts[1], [row[0] for row in self.rows[:-2]] + [self.rows[-2][1], last])
            self.assertEqual(firsts, sorted(firsts))
            self.assertEqual(len(set(map(tuple, firsts))), 200)

    def test_a_grant_that_no_way_leads_to_has_no_chain_at_once(self):
        grants = [*self.roll.grants[:-1], (100, self.rows[-1][0][2], 'end', 1, 20)]
        roll = Roll('ann', grants=grants)
        self.assertEqual(list(chains(roll, grants[-1])), [])
        self.assertEqual(why(roll, grants[-1]), ('closed', grants[:-1]))

    def test_why_counts_and_shows(self):
        for last in self.rows[-1]:
            self.assertIs(counts(self.roll, last), True)
            self.assertEqual(why(self.roll, last), ('chain', [row[0] for row in self.rows[:-1]] + [last]))
            self.assertIs(shows(self.roll, last, ('chain', [row[2] for row in self.rows[:-1]] + [last])), True)

    def test_without_the_first_layer_nothing_counts(self):
        roll = self.roll.only(self.roll.grants[3:])
        self.assertEqual(counting_grants(roll), [])
        for last in self.rows[-1]:
            self.assertEqual(chain_count(roll, last), 0)
            self.assertEqual(why(roll, last), ('closed', []))


class WhyTest(unittest.TestCase):
    def test_the_least_chain(self):
        roll = Roll('ann', grants=WIDE)
        self.assertEqual(why(roll, WIDE[4]), ('chain', [WIDE[0], WIDE[2], WIDE[4]]))
        self.assertEqual(why(roll, WIDE[0]), ('chain', [WIDE[0]]))

    def test_the_grants_that_count(self):
        self.assertEqual(why(four_roll(), FOUR[1]), ('closed', [FOUR[0], FOUR[2], FOUR[3]]))

    def test_on_random_rolls(self):
        for roll in random_rolls(60, 11, seed=2):
            for grant in roll.grants:
                found = all_chains(roll, grant)
                expected = ('chain', found[0]) if found else ('closed', counting_grants(roll))
                self.assertEqual(why(roll, grant), expected)
                self.assertIs(shows(roll, grant, why(roll, grant)), True)

    def test_the_list_is_new(self):
        roll = four_roll()
        for grant in FOUR:
            answer = why(roll, grant)
            self.assertIs(type(answer), tuple)
            answer[1].clear()
            self.assertNotEqual(why(roll, grant)[1], [])


class ShowsTest(unittest.TestCase):
    def setUp(self):
        self.roll = Roll('ann', grants=WIDE)

    def check(self, grant, expected, values):
        for value in values:
            with self.subTest(value=value):
                self.assertIs(shows(self.roll, grant, value), expected)

    def test_any_chain(self):
        self.check(WIDE[4], True, [('chain', [WIDE[0], WIDE[2], WIDE[4]]), ('chain', [WIDE[1], WIDE[3], WIDE[4]])])
        self.check(WIDE[0], True, [('chain', [WIDE[0]])])

    def test_wrong_chains(self):
        self.check(WIDE[4], False, [
            ('chain', []), ('chain', [WIDE[4]]), ('chain', [WIDE[2], WIDE[4]]), ('chain', [WIDE[0], WIDE[2]]),
            ('chain', [WIDE[0], WIDE[3], WIDE[4]]), ('chain', [WIDE[0], WIDE[4]]), ('chain', [WIDE[0], WIDE[2], WIDE[5]]),
            ('chain', [WIDE[4], WIDE[2], WIDE[0]]), ('chain', [WIDE[0], WIDE[2], WIDE[4], WIDE[4]]),
            ('chain', (WIDE[0], WIDE[2], WIDE[4])), ('chain', [WIDE[0], WIDE[2], list(WIDE[4])]),
            ('chain', [WIDE[0], None, WIDE[4]]), ['chain', [WIDE[0], WIDE[2], WIDE[4]]],
            ('closed', [WIDE[0], WIDE[2], WIDE[4]]), ('Chain', [WIDE[0], WIDE[2], WIDE[4]]),
            ('chain', [WIDE[0], WIDE[2], WIDE[4]], None), ([WIDE[0], WIDE[2], WIDE[4]], 'chain')])
        self.check(WIDE[5], False, [('chain', [WIDE[0], WIDE[2], WIDE[5]]), ('chain', [WIDE[5]])])

    def test_chains_of_grants_that_the_roll_does_not_have(self):
        new = (1, 'ann', 'bo', 6, 6)
        self.check(WIDE[4], False, [('chain', [new, WIDE[2], WIDE[4]])])
        self.check(WIDE[0], False, [('chain', [(True, *WIDE[0][1:])]), ('chain', [new])])

    def test_any_closed_set(self):
        grants = [*WIDE, (4, 'xx', 'yy', 1, 3), (5, 'yy', 'zz', 1, 2)]
        roll = Roll('ann', grants=grants)
        least = WIDE[:5]
        for added, expected in [([], True), (grants[6:7], False), (grants[7:], True), (grants[6:], True), (grants[5:6], False)]:
            with self.subTest(added=added):
                self.assertIs(shows(roll, WIDE[5], ('closed', least + added)), expected)

    def test_wrong_closed_sets(self):
        least = WIDE[:5]
        self.check(WIDE[5], True, [('closed', least)])
        self.check(WIDE[5], False, [
            ('closed', WIDE), ('closed', []), ('closed', least[1:]), ('closed', least[:4]), ('closed', tuple(least)),
            ('closed', list(reversed(least))), ('closed', least + least[4:]), ('closed', least[:1] + least),
            ('closed', least + [None]), ('closed', [None] + least), ('closed', least + [(9, 'ann', 'bo', 1, 1)]),
            ('closed', [(True, *WIDE[0][1:])] + least[1:]), ('closed', {grant: 1 for grant in least}), ('closed', None),
            ('chain', least), ['closed', least], ('closed', least, least), ('closed',), least, ('close', least)])
        self.check(WIDE[4], False, [('closed', least), ('closed', WIDE), ('closed', WIDE[:4])])

    def test_values_of_every_other_kind(self):
        values = [*ODD_VALUES, deep_value(), ('chain', deep_value()), ('closed', deep_value()), (deep_value(), []),
                  ('chain', ODD_VALUES), ('closed', ODD_VALUES), ('closed', {}), ('chain', 'chain'), (True, []), (None, []),
                  {'closed': WIDE[:5]}, ({}, {}), self.roll, ('chain', [[WIDE[0]]]), ('closed', [list(WIDE[0])])]
        for grant in WIDE:
            self.check(grant, False, values)

    def test_empty_closed_sets(self):
        grant = (1, 'bo', 'cy', 1, 1)
        roll = Roll('ann', grants=[grant])
        self.assertIs(shows(roll, grant, ('closed', [])), True)
        self.assertIs(shows(roll, grant, ('closed', ())), False)
        self.assertIs(shows(roll, grant, ('chain', [])), False)

    def test_against_all_chains_and_all_closed_sets(self):
        for roll in random_rolls(30, 7, seed=5):
            closed_sets = all_closed_sets(roll)
            for grant in roll.grants:
                found = all_chains(roll, grant)
                for number in range(2 ** len(roll)):
                    listed = [each for place, each in enumerate(roll.grants) if number >> place & 1]
                    self.assertIs(shows(roll, grant, ('chain', listed)), listed in found)
                    expected = listed in closed_sets and grant not in listed
                    self.assertIs(shows(roll, grant, ('closed', listed)), expected)

    def test_the_value_is_not_modified(self):
        value = ('closed', list(WIDE[:5]))
        shows(self.roll, WIDE[5], value)
        self.assertEqual(value, ('closed', WIDE[:5]))


class UnknownGrantTest(unittest.TestCase):
    def test_each_function_names_the_grant(self):
        roll = four_roll()
        for value in [*ODD_VALUES, deep_value(), (9, 'ann', 'bo', 5, 2)]:
            calls = [lambda: counts(roll, value), lambda: next(chains(roll, value)), lambda: chain_count(roll, value),
                     lambda: why(roll, value), lambda: shows(roll, value, None), lambda: shows(roll, value, ('closed', []))]
            for call in calls:
                with self.subTest(value=value):
                    with self.assertRaises(UnknownGrant) as caught:
                        call()
                    self.assertIs(caught.exception.grant, value)

    def test_by_name(self):
        roll = four_roll()
        self.assertIs(counts(roll=roll, grant=FOUR[0]), True)
        self.assertEqual(counting_grants(roll=roll)[0], FOUR[0])
        self.assertEqual(next(chains(roll=roll, grant=FOUR[0])), [FOUR[0]])
        self.assertEqual(chain_count(roll=roll, grant=FOUR[0]), 1)
        self.assertEqual(why(roll=roll, grant=FOUR[0]), ('chain', [FOUR[0]]))
        self.assertIs(shows(roll=roll, grant=FOUR[0], value=('chain', [FOUR[0]])), True)


if __name__ == '__main__':
    unittest.main()
