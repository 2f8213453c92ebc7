"""What the document guarantees of the functions together, over random small rolls."""

import random
import unittest
from itertools import combinations

from grantroll.cores import core, gives_no_more, same_under_revoking, separates
from grantroll.counting import chains, counting_grants, counts, shows, why
from grantroll.hanging import hanging
from grantroll.joins import adding_tells, always_tells, later_grant, same_always, same_under_adding
from grantroll.ledger import Ledger
from grantroll.powers import has
from grantroll.revoking import shortest, without
from grantroll.rolls import Roll
from grantroll.standing import is_standing, standing_part
from grantroll.strength import strength
from tests.samples import (all_chains, braided_rolls, circling_rolls, dense_rolls, pairs_of_rolls, parts_of,
                           plainly_counting, powers_differ, random_rolls)

SMALL = [roll for kind in (random_rolls, dense_rolls, braided_rolls, circling_rolls) for roll in kind(10, 8, seed=81)]
PAIRS = pairs_of_rolls(80, 7, seed=82)


class FourObserversTest(unittest.TestCase):
    def test_an_answer_that_tells_or_none(self):
        answers = {}
        for one, other in PAIRS + [(one, one.only(core(one))) for one in SMALL]:
            found = [same_under_revoking(one, other), same_under_adding(one, other), same_always(one, other)]
            if found[0] is not None:
                self.assertIs(separates(one, other, found[0]), True)
            if found[1] is not None:
                self.assertIs(adding_tells(one, other, found[1]), True)
            if found[2] is not None:
                self.assertIs(always_tells(one, other, found[2]), True)
            if one.grants or other.grants:
                later = later_grant(one, other, 'new')
                found.append(later)
                if later is not None:
                    wide = [Roll(*roll.owners, grants=[*roll.grants, later]) for roll in (one, other)]
                    self.assertEqual(sum(counts(roll, later) for roll in wide), 1)
                answers[tuple(answer is None for answer in found)] = True
        # Rolls that are alike for the first observer of these two, but not for the second.
        for first, second in [(0, 1), (1, 0), (0, 2), (1, 2), (3, 0), (3, 1)]:
            self.assertTrue([alike for alike in answers if alike[first] and not alike[second]], (first, second))

    def test_who_can_do_more_sees_no_less(self):
        for one, other in PAIRS:
            if same_always(one, other) is None:
                self.assertIsNone(same_under_revoking(one, other))
                self.assertIsNone(same_under_adding(one, other))
            if same_under_adding(one, other) is None and one.grants + other.grants:
                self.assertIsNone(later_grant(one, other, 'new'))
            if same_under_revoking(one, other) is None or same_under_adding(one, other) is None:
                self.assertFalse(powers_differ(one.owners, list(one.grants), list(other.grants)))

    def test_each_roll_and_the_other_way_round(self):
        for one, other in PAIRS:
            for call in [same_under_revoking, same_under_adding, same_always]:
                self.assertIs(call(one, other) is None, call(other, one) is None)
                self.assertIsNone(call(one, Roll(*one.owners, grants=one.grants[::-1])))
            self.assertIs(same_under_revoking(one, other) is None,
                          gives_no_more(one, other) is None and gives_no_more(other, one) is None)


class CountingTest(unittest.TestCase):
    def test_a_chain_or_a_closed_set(self):
        for roll in SMALL:
            for grant in roll.grants:
                ways = list(chains(roll, grant))
                self.assertEqual(ways, all_chains(roll, grant))
                self.assertIs(counts(roll, grant), bool(ways))
                answer = why(roll, grant)
                self.assertEqual(answer[0], 'chain' if ways else 'closed')
                self.assertIs(shows(roll, grant, answer), True)


class RevokingTest(unittest.TestCase):
    def test_as_if_the_revoked_grants_never_were(self):
        for roll in SMALL[::2]:
            for part in parts_of(roll.grants)[::3]:
                rest = Roll(*roll.owners, grants=[grant for grant in roll.grants if grant not in part])
                self.assertEqual(without(roll, part), rest.only(counting_grants(rest)))
                self.assertEqual(without(roll, shortest(roll, part)), without(roll, part))

    def test_at_once_or_one_after_the_other(self):
        chance = random.Random(83)
        for roll in SMALL:
            for part in chance.sample(parts_of(roll.grants), min(20, 2 ** len(roll))):
                left = without(roll, [])
                for grant in chance.sample(part, len(part)):
                    if grant in left:
                        left = without(left, [grant])
                self.assertEqual(left, without(roll, part))

    def test_a_later_grant_lets_nothing_count_again(self):
        chance = random.Random(84)
        for roll in SMALL:
            names = [*roll.owners, *roll.persons, 'new']
            for grant in roll.grants:
                giver, taker = chance.choice(names), chance.choice(['new', *roll.persons])
                # A grant of the same time is not earlier either.
                later = (grant[0] + chance.choice([0, 0, 1]), giver, taker, 9, 20)
                if giver != taker and later not in roll:
                    wide = Roll(*roll.owners, grants=[*roll.grants, later])
                    self.assertIs(counts(wide, grant), counts(roll, grant))

    def test_nothing_comes_back_in_a_ledger(self):
        ledger = Ledger('ann')
        given = [ledger.give(*entries) for entries in [('ann', 'bo', 5, 5), ('bo', 'cy', 5, 4), ('cy', 'di', 5, 3)]]
        self.assertEqual(ledger.revoke(given[0]), given)
        again = ledger.give('ann', 'bo', 9, 20)
        self.assertEqual(ledger.roll.grants, (again,))


class HangingTest(unittest.TestCase):
    def test_one_order_in_every_chain(self):
        many = {}
        for roll in SMALL:
            for grant in counting_grants(roll):
                hung = hanging(roll, grant)
                many[len(hung)] = True
                for way in all_chains(roll, grant):
                    self.assertEqual([each for each in way if each in hung], hung)
        self.assertLessEqual({1, 2, 3}, set(many))

    def test_as_many_chains_as_revocations(self):
        many = {}
        for roll in SMALL:
            for name in roll.persons:
                found, cut = strength(roll, name, (1, 1))
                self.assertEqual(len(found), len(cut))
                self.assertEqual(len({grant for way in found for grant in way}), sum(map(len, found)))
                self.assertIs(has(without(roll, cut), name, (1, 1)), False)
                for fewer in combinations(roll.grants, len(cut) - 1) if cut else []:
                    self.assertIs(has(without(roll, fewer), name, (1, 1)), True)
                many[len(cut)] = True
        self.assertLessEqual({0, 1, 2}, set(many))


class StandingTest(unittest.TestCase):
    def test_unions_and_the_greatest_part(self):
        chance = random.Random(85)
        for roll in SMALL:
            parts = parts_of(roll.grants)
            stand = [part for part in parts if plainly_counting(roll.owners, part) == part]
            for first, second in [chance.choices(stand, k=2) for _ in range(30)]:
                self.assertIs(is_standing(roll, first + second), True)
            for part in chance.sample(parts, min(20, len(parts))):
                greatest = standing_part(roll, part)
                self.assertIs(is_standing(roll, greatest), True)
                for some in stand:
                    if set(some) <= set(part):
                        self.assertLessEqual(set(some), set(greatest))

    def test_without_one_of_the_greatest_time(self):
        for roll in SMALL:
            for part in parts_of(roll.grants):
                if part and is_standing(roll, part):
                    last = max(grant[0] for grant in part)
                    for grant in part:
                        if grant[0] == last:
                            self.assertIs(is_standing(roll, [each for each in part if each != grant]), True)


if __name__ == '__main__':
    unittest.main()
