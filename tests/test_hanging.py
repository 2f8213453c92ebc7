import random
import unittest

from grantroll.counting import counting_grants
from grantroll.errors import NotCounting, UnknownGrant
from grantroll.hanging import check_hanging, hanging, hanging_paper, hanging_persons, hanging_tree
from grantroll.revoking import lost_by
from grantroll.rolls import Roll
from tests.samples import (FOUR, HISTORY, ODD_VALUES, all_chains, braided_rolls, chains_back, deep_value, dense_rolls,
                           four_roll, history_roll, plainly_counting, plainly_supports, random_rolls)

BIG = 10 ** 30
# bo and cy both lead to di, di alone leads to ed, and ed's two grants lead to fy and back to di.
KNOT = [(1, 'ann', 'bo', 5, 9), (1, 'ann', 'cy', 5, 9), (2, 'bo', 'di', 5, 8), (2, 'cy', 'di', 4, 8),
        (3, 'di', 'ed', 4, 7), (4, 'ed', 'fy', 4, 6), (4, 'ed', 'gus', 4, 6), (5, 'fy', 'di', 4, 5),
        (5, 'gus', 'di', 4, 5), (6, 'di', 'hal', 4, 4)]
ROLLS = random_rolls(40, 10, seed=21) + dense_rolls(40, 22, seed=21) + braided_rolls(60, 20, seed=21)


def knot_roll():
    return Roll('ann', grants=KNOT)


def plain_hanging(roll, grant):
    """The grants that are in every chain, in the order of the first chain."""
    ways = chains_back(roll, grant)
    return [each for each in ways[0] if all(each in way for way in ways)]


def climbed(links, grant):
    """The grants that are reached from this one, with itself."""
    found = []
    while grant is not None:
        found.append(grant)
        grant = links[grant]
    return found


def first_wrong(roll, paper):
    """The first thing that is wrong in three dicts with the right keys, look for look as the document orders them."""
    held = plainly_counting(roll.owners, roll.grants)
    tree, first, second = paper
    for grant in held:
        fit = [earlier for earlier in held if plainly_supports(earlier, grant)]
        above = tree[grant]
        if grant[1] in roll.owners:
            if above is not None:
                return ('tree', grant)
        elif above is not None:
            if above not in held or not above[0] < grant[0]:
                return ('tree', grant)
            if [earlier for earlier in fit if above not in climbed(tree, earlier)]:
                return ('tree', grant)
        for word, links in [('first', first), ('second', second)]:
            if links[grant] not in (fit or [None]):
                return (word, grant)
        common = set(climbed(first, grant)) & set(climbed(second, grant))
        if not common <= set(climbed(tree, grant)):
            return ('common', grant)
    return None


class HangingTest(unittest.TestCase):
    def test_in_the_order_of_the_chains(self):
        roll = knot_roll()
        self.assertEqual(hanging(roll, KNOT[0]), [KNOT[0]])
        self.assertEqual(hanging(roll, KNOT[2]), [KNOT[0], KNOT[2]])
        self.assertEqual(hanging(roll, KNOT[4]), [KNOT[4]])
        self.assertEqual(hanging(roll, KNOT[7]), [KNOT[4], KNOT[5], KNOT[7]])
        self.assertEqual(hanging(roll, KNOT[9]), [KNOT[9]])

    def test_where_ways_part_and_meet_below_a_grant(self):
        last = (6, 'ivy', 'joe', 4, 4)
        roll = Roll('ann', grants=[KNOT[0], KNOT[2], KNOT[4], *KNOT[5:7], (5, 'fy', 'ivy', 4, 5),
                                   (5, 'gus', 'ivy', 4, 5), last])
        self.assertEqual(hanging(roll, last), [KNOT[0], KNOT[2], KNOT[4], last])

    def test_against_all_chains(self):
        for roll in random_rolls(40, 10, seed=22):
            for grant in counting_grants(roll):
                ways = all_chains(roll, grant)
                self.assertEqual(hanging(roll, grant), [each for each in ways[0] if all(each in way for way in ways)])
        for roll in ROLLS:
            for grant in counting_grants(roll):
                self.assertEqual(hanging(roll, grant), plain_hanging(roll, grant))

    def test_taking_out_one_of_them_and_another_one(self):
        for roll in ROLLS[::4]:
            for grant in counting_grants(roll):
                hung = hanging(roll, grant)
                for other in roll.grants:
                    held = plainly_counting(roll.owners, [each for each in roll.grants if each != other])
                    self.assertIs(grant in held, other not in hung)

    def test_the_list_is_new(self):
        roll = knot_roll()
        hanging(roll, KNOT[7]).clear()
        self.assertEqual(len(hanging(roll, KNOT[7])), 3)


class HangingTreeTest(unittest.TestCase):
    def test_the_last_other_grant(self):
        tree = hanging_tree(knot_roll())
        self.assertEqual(tree, {KNOT[0]: None, KNOT[1]: None, KNOT[2]: KNOT[0], KNOT[3]: KNOT[1], KNOT[4]: None,
                                KNOT[5]: KNOT[4], KNOT[6]: KNOT[4], KNOT[7]: KNOT[5], KNOT[8]: KNOT[6], KNOT[9]: None})
        self.assertIs(type(tree), dict)

    def test_only_grants_that_count(self):
        expected = [(FOUR[0], None), (FOUR[2], FOUR[0]), (FOUR[3], FOUR[2])]
        self.assertEqual(list(hanging_tree(four_roll()).items()), expected)
        self.assertEqual(hanging_tree(Roll('ann')), {})
        self.assertEqual(hanging_tree(Roll('zoe', grants=FOUR)), {})

    def test_against_all_chains_with_ascending_keys(self):
        for roll in ROLLS:
            tree = hanging_tree(roll)
            self.assertEqual(list(tree), counting_grants(roll))
            for grant, above in tree.items():
                self.assertEqual([None, *plain_hanging(roll, grant)][-2], above)

    def test_climbing_leads_through_all_on_which_it_hangs(self):
        for roll in ROLLS[::3]:
            tree = hanging_tree(roll)
            for grant in tree:
                self.assertEqual(list(reversed(climbed(tree, grant))), hanging(roll, grant))

    def test_the_grants_below_are_those_that_are_lost(self):
        for roll in ROLLS[::3]:
            tree = hanging_tree(roll)
            for grant in tree:
                below = [each for each in tree if each != grant and grant in climbed(tree, each)]
                self.assertEqual(below, lost_by(roll, [grant]))

    def test_the_dict_is_new(self):
        roll = knot_roll()
        hanging_tree(roll).clear()
        self.assertEqual(len(hanging_tree(roll)), 10)


class HangingPaperTest(unittest.TestCase):
    def test_papers_are_right(self):
        for roll in [*ROLLS, knot_roll(), four_roll(), history_roll(), Roll('ann')]:
            paper = hanging_paper(roll)
            self.assertIsNone(first_wrong(roll, paper))
            self.assertIsNone(check_hanging(roll, paper))
            self.assertEqual(paper[0], hanging_tree(roll))
            for links in paper:
                self.assertEqual(list(links), counting_grants(roll))

    def test_the_two_chains_have_only_those_in_common_on_which_it_hangs(self):
        split = 0
        for roll in ROLLS:
            tree, first, second = hanging_paper(roll)
            for grant in tree:
                ways = [climbed(first, grant), climbed(second, grant)]
                for way in ways:
                    self.assertIn(list(reversed(way)), chains_back(roll, grant))
                self.assertEqual(set(ways[0]) & set(ways[1]), set(plain_hanging(roll, grant)))
                split += tree[grant] is not None and first[grant] != second[grant]
        # There are enough grants for which the two chains part below the one on which both hang.
        self.assertGreater(split, 50)

    def test_three_new_plain_dicts(self):
        for roll in [history_roll(), Roll('ann')]:
            paper = hanging_paper(roll)
            self.assertIs(type(paper), tuple)
            self.assertEqual([type(links) for links in paper], [dict] * 3)
            self.assertEqual(len({id(links) for links in paper}), 3)
            for links in paper:
                links[None] = None
            self.assertIsNone(check_hanging(roll, hanging_paper(roll)))

    def test_equal_calls_give_equal_papers(self):
        for roll in ROLLS[::9]:
            again = Roll(*roll.owners, grants=list(reversed(roll.grants)))
            self.assertEqual(hanging_paper(roll), hanging_paper(again))


class CheckHangingTest(unittest.TestCase):
    def changed(self, roll, place, grant, value):
        paper = [dict(links) for links in hanging_paper(roll)]
        paper[place][grant] = value
        return tuple(paper)

    def test_keys_in_any_order(self):
        for roll in [knot_roll(), history_roll()]:
            paper = tuple({grant: links[grant] for grant in reversed(list(links))} for links in hanging_paper(roll))
            self.assertIsNone(check_hanging(roll, paper))

    def test_any_other_right_paper(self):
        roll = knot_roll()
        tree, first, second = hanging_paper(roll)
        self.assertIsNone(check_hanging(roll, (tree, second, first)))

    def test_no_paper(self):
        roll = history_roll()
        tree, first, second = hanging_paper(roll)
        less = {grant: above for grant, above in tree.items() if grant != HISTORY[3]}
        values = [*ODD_VALUES, deep_value(), (), (tree,), (tree, first), (tree, first, second, second),
                  [tree, first, second],
                  (tree, first, None), (None, first, second), (tree, list(first), second), (tree, first, HISTORY),
                  (less, first, second), (tree, less, second), (tree, first, less), ({}, {}, {}),
                  ({**tree, None: None}, first, second), ({**tree, (9, 'ann', 'bo', 5, 2): None}, first, second),
                  (tree, {**less, (5, 'cy', 'di', 2, True): None}, second), (tree, first, {**less, 'di': None}),
                  ({**less, 7: None}, first, second), {'tree': tree}]
        for value in values:
            with self.subTest(value=value):
                self.assertEqual(check_hanging(roll, value), ('paper',))

    def test_keys_that_equal_grants_and_are_none(self):
        for strange in [True, 1]:
            links = {(strange, 'ann', 'bo', 5, 3): None}
            roll = Roll('ann', grants=[(1, 'ann', 'bo', 5, 3)])
            expected = ('paper',) if strange is True else None
            self.assertEqual(check_hanging(roll, (links, dict(links), dict(links))), expected)
            self.assertEqual(check_hanging(roll, ({roll.grants[0]: None}, dict(links), {roll.grants[0]: None})),
                             expected)

    def test_keys_for_grants_that_do_not_count(self):
        roll = four_roll()
        paper = hanging_paper(roll)
        for place in range(3):
            wider = tuple({**links, FOUR[1]: None} if at == place else links for at, links in enumerate(paper))
            self.assertEqual(check_hanging(roll, wider), ('paper',))
        self.assertEqual(check_hanging(roll, tuple({**links, FOUR[1]: None} for links in paper)), ('paper',))

    def test_values_of_every_kind(self):
        roll = knot_roll()
        odd = [value for value in ODD_VALUES if value is not None]
        for value in [*odd, deep_value(), (True, *KNOT[0][1:]), list(KNOT[0]), (9, 'ann', 'bo', 5, 2), {KNOT[0]: None}]:
            for grant in KNOT:
                for place, word in enumerate(['tree', 'first', 'second']):
                    with self.subTest(value=value, grant=grant):
                        self.assertEqual(check_hanging(roll, self.changed(roll, place, grant, value)), (word, grant))

    def test_each_value_changed_to_each_grant_and_to_none(self):
        rolls = random_rolls(15, 10, seed=23) + dense_rolls(12, 16, seed=23) + braided_rolls(12, 14, seed=23)
        words = {}
        for roll in [*rolls, knot_roll()]:
            held = counting_grants(roll)
            for grant in held:
                for place in range(3):
                    for value in [None, *roll.grants]:
                        paper = self.changed(roll, place, grant, value)
                        expected = first_wrong(roll, paper)
                        self.assertEqual(check_hanging(roll, paper), expected)
                        words[expected and expected[0]] = True
        self.assertEqual(set(words), {None, 'tree', 'first', 'second', 'common'})

    def test_several_values_changed(self):
        chance = random.Random(24)
        words = {}
        for roll in braided_rolls(60, 16, seed=24):
            held = counting_grants(roll)
            for _ in range(40):
                paper = hanging_paper(roll)
                for _ in range(chance.randint(1, 4)):
                    grant = chance.choice(held)
                    fit = [earlier for earlier in held if plainly_supports(earlier, grant)]
                    chance.choice(paper)[grant] = chance.choice([None, *fit, *held])
                expected = first_wrong(roll, paper)
                self.assertEqual(check_hanging(roll, paper), expected)
                words[expected and expected[0]] = True
        self.assertEqual(set(words), {None, 'tree', 'first', 'second', 'common'})

    def test_all_looks_at_one_grant_come_before_the_next_grant(self):
        roll = history_roll()
        paper = hanging_paper(roll)
        paper[2][HISTORY[1]] = HISTORY[2]
        paper[1][HISTORY[3]] = None
        paper[0][HISTORY[3]] = HISTORY[3]
        self.assertEqual(check_hanging(roll, paper), ('second', HISTORY[1]))
        paper[2][HISTORY[1]] = HISTORY[0]
        self.assertEqual(check_hanging(roll, paper), ('tree', HISTORY[3]))
        paper[0][HISTORY[3]] = None
        self.assertEqual(check_hanging(roll, paper), ('first', HISTORY[3]))
        paper[1][HISTORY[3]] = HISTORY[2]
        self.assertIn(check_hanging(roll, paper), [None, ('common', HISTORY[3])])

    def test_none_in_the_tree_always_passes_its_look(self):
        roll = history_roll()
        self.assertEqual(check_hanging(roll, self.changed(roll, 0, HISTORY[1], None)), ('common', HISTORY[1]))

    def test_a_tree_that_skips_a_grant(self):
        grants = [(1, 'ann', 'bo', 5, 5), (2, 'bo', 'cy', 5, 4), (3, 'cy', 'di', 5, 3)]
        roll = Roll('ann', grants=grants)
        self.assertEqual(check_hanging(roll, self.changed(roll, 0, grants[2], grants[0])), ('common', grants[2]))

    def test_a_grant_of_an_owner_has_none_everywhere(self):
        grants = [(1, 'ann', 'bo', 5, 5), (2, 'ann', 'cy', 5, 4)]
        roll = Roll('ann', grants=grants)
        for place, word in enumerate(['tree', 'first', 'second']):
            self.assertEqual(check_hanging(roll, self.changed(roll, place, grants[1], grants[0])), (word, grants[1]))

    def test_the_smaller_time(self):
        # Nothing supports the last grant but the first one, so only the time speaks against the second one.
        grants = [(1, 'ann', 'bo', 5, 5), (2, 'ann', 'cy', 5, 4), (2, 'bo', 'di', 5, 4)]
        roll = Roll('ann', grants=grants)
        for value in [grants[1], grants[2]]:
            self.assertEqual(check_hanging(roll, self.changed(roll, 0, grants[2], value)), ('tree', grants[2]))

    def test_chains_that_meet_where_they_need_not(self):
        roll = knot_roll()
        tree, first, second = hanging_paper(roll)
        self.assertEqual(check_hanging(roll, (tree, first, first)), ('common', KNOT[4]))
        self.assertEqual(check_hanging(roll, (tree, first, {**second, KNOT[9]: first[KNOT[9]]})), ('common', KNOT[9]))

    def test_a_roll_without_grants_that_count(self):
        for roll in [Roll('ann'), Roll('zoe', grants=FOUR)]:
            self.assertIsNone(check_hanging(roll, ({}, {}, {})))
            self.assertEqual(check_hanging(roll, ({}, {}, {None: None})), ('paper',))
            self.assertEqual(check_hanging(roll, ({}, {}, [])), ('paper',))

    def test_the_paper_is_not_modified(self):
        roll = knot_roll()
        paper = hanging_paper(roll)
        check_hanging(roll, paper)
        self.assertEqual(paper, hanging_paper(roll))


class HangingPersonsTest(unittest.TestCase):
    def test_persons_before_the_end(self):
        roll = knot_roll()
        self.assertEqual(hanging_persons(roll, KNOT[0]), [])
        self.assertEqual(hanging_persons(roll, KNOT[2]), ['bo'])
        self.assertEqual(hanging_persons(roll, KNOT[4]), ['di'])
        self.assertEqual(hanging_persons(roll, KNOT[5]), ['di', 'ed'])
        self.assertEqual(hanging_persons(roll, KNOT[9]), ['di'])

    def test_the_own_taker(self):
        roll = knot_roll()
        self.assertEqual(hanging_persons(roll, KNOT[7]), ['di', 'ed', 'fy'])
        self.assertEqual(hanging_persons(roll, KNOT[8]), ['di', 'ed', 'gus'])

    def test_an_earlier_grant_to_the_taker_in_some_chains_only(self):
        grants = [(1, 'ann', 'bo', 5, 9), (2, 'bo', 'cy', 5, 8), (3, 'cy', 'bo', 5, 7), (1, 'ann', 'cy', 5, 9)]
        roll = Roll('ann', grants=grants)
        self.assertEqual(hanging_persons(roll, grants[2]), ['cy'])
        self.assertEqual(hanging_persons(roll.only(grants[:3]), grants[2]), ['bo', 'cy'])

    def test_against_all_chains(self):
        for roll in ROLLS:
            for grant in counting_grants(roll):
                sets = [{each[2] for each in way[:-1]} for way in chains_back(roll, grant)]
                self.assertEqual(hanging_persons(roll, grant), sorted(set.intersection(*sets)))

    def test_the_list_is_new(self):
        roll = knot_roll()
        hanging_persons(roll, KNOT[5]).clear()
        self.assertEqual(hanging_persons(roll, KNOT[5]), ['di', 'ed'])


class ErrorsTest(unittest.TestCase):
    def test_unknown_grants(self):
        for value in [*ODD_VALUES, deep_value(), (9, 'ann', 'bo', 5, 2), (1, 'ann', 'bo', 5, True)]:
            for function in [hanging, hanging_persons]:
                with self.subTest(function=function.__name__, value=value):
                    with self.assertRaises(UnknownGrant) as caught:
                        function(four_roll(), value)
                    self.assertIs(caught.exception.grant, value)

    def test_grants_that_do_not_count(self):
        for roll in [four_roll(), *random_rolls(20, 11, seed=25)]:
            held = plainly_counting(roll.owners, roll.grants)
            for grant in roll.grants:
                for function in [hanging, hanging_persons]:
                    if grant in held:
                        self.assertIs(type(function(roll, grant)), list)
                        continue
                    with self.assertRaises(NotCounting) as caught:
                        function(roll, grant)
                    self.assertEqual(caught.exception.grant, grant)

    def test_extreme_times(self):
        grants = [(-BIG, 'ann', 'bo', 5, 3), (BIG, 'bo', 'cy', 4, 2)]
        roll = Roll('ann', grants=grants)
        self.assertEqual([hanging(roll, grants[1]), hanging_persons(roll, grants[1])], [grants, ['bo']])

    def test_names_of_the_arguments(self):
        roll = history_roll()
        self.assertEqual(hanging(roll=roll, grant=HISTORY[1]), HISTORY[:2])
        self.assertEqual(hanging_persons(roll=roll, grant=HISTORY[1]), ['bo'])
        self.assertIsNone(check_hanging(roll=roll, paper=hanging_paper(roll=roll)))
        self.assertEqual(hanging_tree(roll=roll), hanging_tree(roll))


if __name__ == '__main__':
    unittest.main()
