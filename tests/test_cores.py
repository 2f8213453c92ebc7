import unittest

from grantroll.cores import (alike_paper, check_alike, check_useful, core, gives_no_more, same_under_revoking,
                             separates, useful_paper)
from grantroll.errors import InvalidGrants, OtherOwners, UnknownGrant
from grantroll.rolls import Roll
from tests.samples import (FOUR, HISTORY, ODD_VALUES, all_chains, braided_rolls, check_error, circling_rolls,
                           deep_value, dense_rolls, four_roll, history_roll, pairs_of_rolls, parts_of, plain_powers,
                           plainly_counting, plainly_supports, powers_differ, random_rolls)

LATE = (6, 'di', 'cy', 1, 0)
SMALL = [roll for kind in (random_rolls, dense_rolls, braided_rolls) for roll in kind(16, 8, seed=41)]
SMALL += circling_rolls(32, 8, seed=41)
PAIRS = pairs_of_rolls(120, 7, seed=42)
COMPARING = [gives_no_more, same_under_revoking, alike_paper, lambda one, other: check_alike(one, other, ([], [])),
             lambda one, other: separates(one, other, [])]


def wide_roll():
    return Roll('ann', grants=HISTORY + [LATE])


def without_earlier(roll, grant):
    return [each for each in roll.grants if not (each[2] == grant[2] and each[0] < grant[0])]


def is_useful(roll, grant):
    return grant in plainly_counting(roll.owners, without_earlier(roll, grant))


def useful_grants(roll):
    return [grant for grant in roll.grants if is_useful(roll, grant)]


def closed_lists(roll, grant):
    """Every closed list for the grant, as the document tells of them, found by trying all sets of grants."""
    allowed = without_earlier(roll, grant)
    found = []
    for part in parts_of(allowed):
        forced = [each for each in allowed if each[1] in roll.owners
                  or any(plainly_supports(member, each) for member in part)]
        if all(each in part for each in forced) and grant not in part:
            found.append(part)
    return found


def gives_a_power_more(one, other, grants):
    """Whether somebody has a power in the one sub-history for these grants that nothing covers in the other one."""
    mine = [grant for grant in one.grants if grant in grants]
    theirs = [grant for grant in other.grants if grant in grants]
    for name in {grant[2] for grant in mine}:
        for time in {grant[0] for grant in mine}:
            covering = plain_powers(other.owners, theirs, name, time)
            for level, passes in plain_powers(one.owners, mine, name, time):
                if not [power for power in covering if power[0] >= level and power[1] >= passes]:
                    return True
    return False


class CoreTest(unittest.TestCase):
    def test_grants_to_who_has_the_power_before(self):
        self.assertEqual(core(wide_roll()), HISTORY)
        self.assertEqual(core(history_roll()), HISTORY)
        self.assertEqual(core(four_roll()), [FOUR[0], FOUR[2], FOUR[3]])
        self.assertEqual(core(Roll('ann')), [])

    def test_an_earlier_grant_to_the_taker_that_is_not_enough(self):
        # The earlier grant to bo is smaller, and the way over it is taken out; that of an owner stands by itself.
        grants = [(1, 'ann', 'bo', 1, 1), (2, 'ann', 'cy', 5, 5), (3, 'cy', 'bo', 4, 4), (4, 'bo', 'cy', 3, 0)]
        self.assertEqual(core(Roll('ann', grants=grants)), grants[:3])
        self.assertEqual(core(Roll('ann', grants=grants[1:])), grants[1:3])
        self.assertEqual(core(Roll('ann', 'cy', grants=[grants[0], grants[2]])), [grants[0], grants[2]])

    def test_grants_of_the_same_time_do_not_hinder(self):
        grants = [(1, 'ann', 'bo', 9, 9), (2, 'ann', 'cy', 9, 9), (2, 'bo', 'cy', 1, 1)]
        self.assertEqual(core(Roll('ann', grants=grants)), grants)

    def test_a_grant_that_an_earlier_one_covers(self):
        # Of an owner it is useful all the same, as the earlier one may be revoked.
        grants = [(1, 'ann', 'bo', 9, 9), (2, 'ann', 'bo', 1, 1)]
        self.assertEqual(core(Roll('ann', grants=grants)), grants)

    def test_useful_grants_change_a_power_in_some_sub_history_and_idle_ones_in_none(self):
        many = [0, 0]
        for roll in SMALL:
            found = core(roll)
            self.assertEqual(found, useful_grants(roll))
            for grant in roll.grants:
                rest = [each for each in roll.grants if each != grant]
                changes = any(powers_differ(roll.owners, part, part + [grant]) for part in parts_of(rest))
                self.assertIs(grant in found, changes)
                many[changes] += grant in plainly_counting(roll.owners, roll.grants)
        self.assertGreater(min(many), 10)


class UsefulPaperTest(unittest.TestCase):
    def test_a_chain_or_a_closed_list(self):
        self.assertEqual(useful_paper(wide_roll(), HISTORY[1]), ('useful', HISTORY[:2]))
        self.assertEqual(useful_paper(wide_roll(), LATE), ('idle', HISTORY[:1]))
        self.assertEqual(useful_paper(four_roll(), FOUR[1]), ('idle', [FOUR[0], FOUR[2], FOUR[3]]))
        self.assertEqual(useful_paper(four_roll(), FOUR[0]), ('useful', FOUR[:1]))

    def test_small_rolls(self):
        words = {}
        for roll in SMALL:
            for grant in roll.grants:
                word, listed = useful_paper(roll, grant)
                words[word] = words.get(word, 0) + 1
                self.assertEqual(word, 'useful' if is_useful(roll, grant) else 'idle')
                if word == 'useful':
                    self.assertIn(listed, all_chains(roll, grant))
                    self.assertNotIn(grant[2], [each[2] for each in listed[:-1]])
                else:
                    self.assertIn(listed, closed_lists(roll, grant))
                self.assertIsNone(check_useful(roll, grant, (word, listed)))
        self.assertEqual(sorted(words), ['idle', 'useful'])

    def test_no_grant_of_the_roll(self):
        for value in ODD_VALUES + [deep_value(), (1, 'ann', 'bo', 5, 4)]:
            for call in [useful_paper, lambda roll, grant: check_useful(roll, grant, ('useful', []))]:
                with self.assertRaises(UnknownGrant) as caught:
                    call(history_roll(), value)
                self.assertIs(caught.exception.grant, value)


class CheckUsefulTest(unittest.TestCase):
    def test_no_paper(self):
        roll = wide_roll()
        values = [('useful', HISTORY[0]), ('idle', ()), ('idle', {}), ['idle', []], ('useful', [], []), ('closed', []),
                  ('chain', HISTORY[:1]), (None, []), ([], 'idle'), (True, []), ('Useful', []), ('idle',), ({}, {})]
        for value in ODD_VALUES + values + [deep_value()]:
            for grant in roll.grants:
                self.assertEqual(check_useful(roll, grant, value), ('paper',))

    def test_any_chain_without_another_grant_to_the_taker(self):
        for roll in SMALL:
            for grant in roll.grants:
                found = all_chains(roll, grant)
                for part in parts_of(roll.grants):
                    expected = ('chain',)
                    if part in found:
                        expected = ('taker',) if grant[2] in [each[2] for each in part[:-1]] else None
                    self.assertEqual(check_useful(roll, grant, ('useful', part)), expected)

    def test_wrong_chains(self):
        roll = wide_roll()
        self.assertIsNone(check_useful(roll, HISTORY[1], ('useful', HISTORY[:2])))
        wrong = [[], HISTORY[1:2], HISTORY[1::-1], HISTORY[:3], HISTORY[:1] * 2 + HISTORY[1:2], HISTORY[:1],
                 [HISTORY[0], list(HISTORY[1])], [HISTORY[0], None], [(True,) + HISTORY[0][1:], HISTORY[1]],
                 [deep_value()], [HISTORY[0], HISTORY[1], []]]
        for listed in wrong:
            self.assertEqual(check_useful(roll, HISTORY[1], ('useful', listed)), ('chain',))
        chain = [HISTORY[2], HISTORY[3], LATE]
        self.assertEqual(check_useful(roll, LATE, ('useful', chain)), ('taker',))
        self.assertEqual(check_useful(roll, LATE, ('useful', chain[1:])), ('chain',))

    def test_any_closed_list(self):
        for roll in SMALL[::2]:
            for grant in roll.grants:
                allowed = without_earlier(roll, grant)
                for part in parts_of(roll.grants):
                    expected = None
                    forced = [each for each in allowed if each[1] in roll.owners
                              or any(plainly_supports(member, each) for member in part)]
                    if not set(forced) <= set(part) or not set(part) <= set(allowed):
                        expected = ('closed',)
                    elif grant in part:
                        expected = ('grant',)
                    self.assertEqual(check_useful(roll, grant, ('idle', part)), expected)

    def test_wrong_closed_lists(self):
        roll = wide_roll()
        right = HISTORY[:1]
        self.assertIsNone(check_useful(roll, LATE, ('idle', right)))
        # Grants that nothing asks for may be in the list, as long as it stays closed; not earlier ones to the taker.
        self.assertEqual(check_useful(roll, LATE, ('idle', [HISTORY[0], HISTORY[3]])), ('closed',))
        self.assertEqual(check_useful(roll, LATE, ('idle', [HISTORY[0], HISTORY[3], LATE])), ('grant',))
        wrong = [[], right * 2, [HISTORY[0], HISTORY[2]], HISTORY[:2], [(True,) + HISTORY[0][1:]], [None], [()],
                 [(1, 'ann', 'bo', 5, 4)], right + [deep_value()], [LATE, HISTORY[0]]]
        for listed in wrong:
            self.assertEqual(check_useful(roll, LATE, ('idle', listed)), ('closed',))
        self.assertEqual(check_useful(roll, LATE, ('idle', right + [LATE])), ('grant',))
        # A useful grant has no such list.
        self.assertEqual(check_useful(roll, HISTORY[0], ('idle', HISTORY[:1] + HISTORY[1:4] + [LATE])), ('grant',))
        self.assertEqual(check_useful(roll, HISTORY[0], ('idle', HISTORY[2:4])), ('closed',))


class GivesNoMoreTest(unittest.TestCase):
    def test_who_has_less(self):
        roll = history_roll()
        less = roll.only(HISTORY[1:])
        self.assertIsNone(gives_no_more(less, roll))
        self.assertEqual(gives_no_more(roll, less), HISTORY[:1])
        self.assertIsNone(gives_no_more(wide_roll(), roll))
        self.assertIsNone(gives_no_more(roll, wide_roll()))
        self.assertIsNone(gives_no_more(roll, roll))
        self.assertEqual(gives_no_more(roll, Roll('ann', grants=HISTORY[:3])) in (
            HISTORY[:2] + HISTORY[3:], HISTORY[2:]), True)

    def test_against_all_sub_histories(self):
        answers = {}
        for one, other in PAIRS + [pair[::-1] for pair in PAIRS[::3]]:
            found = gives_no_more(one, other)
            parts = parts_of(sorted({*one.grants, *other.grants}))
            answers[found is None] = True
            self.assertIs(found is None, not any(gives_a_power_more(one, other, part) for part in parts))
            self.assertIs(found is None, set(useful_grants(one)) <= set(other.grants))
            if found is not None:
                self.check_separating(one, other, found)
        self.assertEqual(len(answers), 2)

    def check_separating(self, one, other, found):
        self.assertIn(found, all_chains(one, found[-1]))
        self.assertTrue(gives_a_power_more(one, other, found))
        self.assertIs(separates(one, other, found), True)


class SameUnderRevokingTest(unittest.TestCase):
    def test_equal_cores(self):
        roll = history_roll()
        self.assertIsNone(same_under_revoking(wide_roll(), roll))
        self.assertIsNone(same_under_revoking(roll, wide_roll()))
        self.assertEqual(same_under_revoking(roll, roll.only(HISTORY[1:])), HISTORY[:1])
        self.assertEqual(same_under_revoking(roll.only(HISTORY[1:]), roll), HISTORY[:1])

    def test_the_one_roll_first(self):
        one = Roll('ann', grants=[(1, 'ann', 'bo', 1, 1)])
        other = Roll('ann', grants=[(1, 'ann', 'cy', 1, 1)])
        self.assertEqual(same_under_revoking(one, other), list(one.grants))
        self.assertEqual(same_under_revoking(other, one), list(other.grants))

    def test_against_all_sub_histories(self):
        answers = {}
        for one, other in PAIRS + [(one, one.only(core(one))) for one in SMALL[::4]]:
            found = same_under_revoking(one, other)
            parts = parts_of(sorted({*one.grants, *other.grants}))
            alike = not any(separates(one, other, part) for part in parts)
            self.assertIs(found is None, alike)
            self.assertIs(found is None, core(one) == core(other))
            answers[found is None, one == other] = True
            if found is not None:
                self.assertIs(separates(one, other, found), True)
                sides = [(one, other), (other, one)]
                more, less = sides[0] if gives_no_more(one, other) is not None else sides[1]
                self.assertTrue(gives_a_power_more(more, less, found))
                self.assertIn(found, all_chains(more, found[-1]))
        self.assertLessEqual({(True, False), (False, False)}, set(answers))


class AlikePaperTest(unittest.TestCase):
    def test_papers(self):
        roll = history_roll()
        self.assertEqual(alike_paper(wide_roll(), roll), ([(LATE, HISTORY[:1])], []))
        self.assertEqual(alike_paper(roll, wide_roll()), ([], [(LATE, HISTORY[:1])]))
        self.assertEqual(alike_paper(roll, roll), ([], []))
        self.assertIsNone(alike_paper(roll, roll.only(HISTORY[1:])))
        self.assertIsNone(alike_paper(roll.only(HISTORY[1:]), roll))

    def test_small_rolls(self):
        many = 0
        for one, other in PAIRS + [(one, one.only(core(one))) for one in SMALL]:
            paper = alike_paper(one, other)
            self.assertIs(paper is None, useful_grants(one) != useful_grants(other))
            if paper is not None:
                self.assertIsNone(check_alike(one, other, paper))
                for roll, rest, listed in [(one, one - other, paper[0]), (other, other - one, paper[1])]:
                    self.assertEqual([grant for grant, _ in listed], list(rest.grants))
                    for grant, closed in listed:
                        self.assertIn(closed, closed_lists(roll, grant))
                        many += 1
        self.assertGreater(many, 50)


class CheckAlikeTest(unittest.TestCase):
    def setUp(self):
        # Each roll has two grants that the other one has not, all of them idle.
        mine = [(6, 'di', 'cy', 1, 0), (7, 'zoe', 'bo', 1, 0)]
        theirs = [(0, 'bo', 'di', 1, 1), (7, 'di', 'cy', 2, 0)]
        self.one = Roll('ann', grants=HISTORY + mine)
        self.other = Roll('ann', grants=HISTORY + theirs)
        self.paper = alike_paper(self.one, self.other)

    def check(self, paper):
        return check_alike(self.one, self.other, paper)

    def with_entry(self, side, k, entry):
        lists = [list(part) for part in self.paper]
        lists[side][k] = entry
        return tuple(lists)

    def test_right_papers(self):
        self.assertEqual([len(part) for part in self.paper], [2, 2])
        self.assertIsNone(self.check(self.paper))
        self.assertEqual(check_alike(self.one, self.one, ([], [])), None)
        for side, roll in [(0, self.one), (1, self.other)]:
            for k, (grant, _) in enumerate(self.paper[side]):
                lists = closed_lists(roll, grant)
                self.assertTrue(lists)
                for closed in lists:
                    self.assertIsNone(self.check(self.with_entry(side, k, (grant, closed))))

    def test_no_paper(self):
        first, second = self.paper
        values = [(first, second, []), (first,), [first, second], (tuple(first), second), (first, tuple(second)),
                  (first[:1], second), (first, second[:1]), (first + first[:1], second), (first, second + second[:1]),
                  (first + second, []), ([], second), ({}, {}), (first, None), None]
        for value in values + ODD_VALUES + [deep_value()]:
            self.assertEqual(self.check(value), ('paper',))
        for value in ODD_VALUES + [([], [[]]), ([()], [])]:
            self.assertEqual(check_alike(self.one, self.one, value), ('paper',))

    def test_changed_at_one_place(self):
        for side, word in [(0, 'one'), (1, 'other')]:
            roll = [self.one, self.other][side]
            for k, (grant, closed) in enumerate(self.paper[side]):
                right = closed_lists(roll, grant)
                entries = [None, (), [], grant, closed, (grant,), [grant, closed], (grant, tuple(closed)),
                           (grant, closed, None), (closed, grant), (None, closed), (grant, None), (grant, {}),
                           (list(grant), closed), ((False,) + grant[1:], closed), (HISTORY[0], closed),
                           ('idle', closed), (grant, ('idle', closed)), (grant, deep_value()),
                           self.paper[side][1 - k], self.paper[1 - side][k]]
                entries += [(grant, part) for part in parts_of(roll.grants) if part not in right]
                entries += [(grant, part[::-1]) for part in right if len(part) > 1]
                entries += [(grant, part + part[-1:]) for part in right if part]
                for entry in entries:
                    self.assertEqual(self.check(self.with_entry(side, k, entry)), (word, k), entry)

    def test_the_first_wrong_thing(self):
        for wrong in [([None, None], [None, None]), ([None, self.paper[0][1]], [None, None])]:
            self.assertEqual(self.check(wrong), ('one', 0))
        self.assertEqual(self.check(([self.paper[0][0], None], [None, None])), ('one', 1))
        self.assertEqual(self.check((self.paper[0], [None, None])), ('other', 0))
        self.assertEqual(self.check((self.paper[0], [self.paper[1][0], None])), ('other', 1))
        self.assertEqual(self.check(([None, None], [None])), ('paper',))

    def test_in_the_order_of_the_grants(self):
        first, second = self.paper
        self.assertEqual(self.check((first[::-1], second)), ('one', 0))
        self.assertEqual(self.check((first, second[::-1])), ('other', 0))
        self.assertEqual(self.check((first[:1] * 2, second)), ('one', 1))

    def test_true_is_no_time(self):
        grant = (1, 'zoe', 'bo', 1, 0)
        roll = Roll('ann', grants=[grant])
        self.assertIsNone(check_alike(roll, Roll('ann'), ([(grant, [])], [])))
        self.assertEqual(check_alike(roll, Roll('ann'), ([((True,) + grant[1:], [])], [])), ('one', 0))

    def test_rolls_that_are_not_alike(self):
        roll = history_roll()
        less = roll.only(HISTORY[1:])
        for part in parts_of(roll.grants):
            self.assertEqual(check_alike(roll, less, ([(HISTORY[0], part)], [])), ('one', 0))
            self.assertEqual(check_alike(less, roll, ([], [(HISTORY[0], part)])), ('other', 0))


class SeparatesTest(unittest.TestCase):
    def test_sub_histories(self):
        roll = history_roll()
        less = roll.only(HISTORY[1:])
        self.assertIs(separates(roll, less, HISTORY[:1]), True)
        self.assertIs(separates(roll, less, tuple(HISTORY)), True)
        self.assertIs(separates(roll, less, HISTORY[1:]), False)
        self.assertIs(separates(roll, less, []), False)
        self.assertIs(separates(roll, less, ()), False)
        # Grants that neither has, or that come twice, or in another order, and grants to owners.
        others = [(9, 'bo', 'ed', 1, 1), (0, 'cy', 'ann', 1, 1)]
        self.assertIs(separates(roll, less, HISTORY[1:] * 2 + others), False)
        self.assertIs(separates(roll, less, others + HISTORY[::-1] * 20), True)

    def test_different_only_for_a_time(self):
        early = Roll('ann', grants=[(1, 'ann', 'bo', 1, 1), (5, 'ann', 'bo', 2, 2)])
        late = Roll('ann', grants=[(2, 'ann', 'bo', 1, 1), (5, 'ann', 'bo', 2, 2)])
        both = early | late
        self.assertIs(separates(early, late, both.grants), True)
        self.assertIs(separates(early, both, both.grants), False)
        self.assertIs(separates(early, both, late.grants), True)
        self.assertIs(separates(early, late, early.grants[1:]), False)

    def test_against_the_powers(self):
        for one, other in PAIRS:
            for part in parts_of(sorted({*one.grants, *other.grants})):
                sides = [[grant for grant in roll.grants if grant in part] for roll in (one, other)]
                self.assertIs(separates(one, other, part), powers_differ(one.owners, *sides))

    def test_no_list_of_grants(self):
        roll = history_roll()
        wrong = [value for value in ODD_VALUES if value not in ([], ()) and value != ((1, 'ann', 'bo', 5, 2),)]
        wrong += [HISTORY + [None], HISTORY + [list(HISTORY[0])], [(True, 'ann', 'bo', 5, 2)], set(), {HISTORY[0]: 1},
                  [HISTORY], deep_value(), (HISTORY[0], 'ann'), [(1, 'ann', 'bo', 0, 0)], HISTORY[0], [[]] * 4000]
        check_error(self, InvalidGrants, [lambda value=value: separates(roll, roll, value) for value in wrong])


class OtherOwnersTest(unittest.TestCase):
    def test_other_owners_first(self):
        rolls = [(Roll('ann'), Roll('bo')), (Roll('ann', 'bo'), Roll('ann')), (Roll('ann'), Roll('ann', 'bo')),
                 (history_roll(), Roll('ann', 'zoe', grants=HISTORY)), (Roll('zoe', grants=HISTORY), history_roll()),
                 (history_roll(), Roll('zoe')), (Roll('zoe'), history_roll())]
        for one, other in rolls:
            check_error(self, OtherOwners, [lambda call=call: call(one, other) for call in COMPARING])
            for value in ODD_VALUES + [deep_value()]:
                check_error(self, OtherOwners, [lambda: separates(one, other, value),
                                                lambda: check_alike(one, other, value)])

    def test_the_order_of_owners_does_not_matter(self):
        one, other = Roll('bo', 'ann'), Roll('ann', 'bo')
        self.assertEqual([call(one, other) for call in COMPARING], [None, None, ([], []), None, False])


if __name__ == '__main__':
    unittest.main()
