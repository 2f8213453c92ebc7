"""60 grants in twenty layers of three, each of which supports each one of the next layer: 3 ** 19 chains and more."""

import time
import unittest

from grantroll.cores import (alike_paper, check_alike, check_useful, core, gives_no_more, same_under_revoking,
                             separates, useful_paper)
from grantroll.errors import TooMany
from grantroll.hanging import check_hanging, hanging, hanging_paper, hanging_persons, hanging_tree
from grantroll.joins import adding_tells, always_tells, later_grant, same_always, same_under_adding
from grantroll.ledger import Ledger
from grantroll.powers import has, holders, powers_of, since, steps_of
from grantroll.revoking import lost_by, lost_powers, shortest, without
from grantroll.rolls import Roll
from grantroll.standing import (build_orders, is_standing, minimal_sets, standing_at, standing_count, standing_index,
                                standing_part)
from grantroll.strength import check_strength, keeps, strength
from tests.samples import check_error, layered_roll, layers, person

ROWS = layers()


class LayersTest(unittest.TestCase):
    def setUp(self):
        self.roll = layered_roll(ROWS)
        self.begin = time.perf_counter()

    def tearDown(self):
        # Far more than is needed, and far less than going through the chains would take.
        self.assertLess(time.perf_counter() - self.begin, 5)

    def test_powers(self):
        for layer in range(20):
            name, power = person(layer + 1), (1, 20 - layer)
            self.assertEqual([has(self.roll, name, power, at=at) for at in (3 * layer - 1, 3 * layer, None)],
                             [False, True, True])
            self.assertIs(has(self.roll, name, (1, 20 - layer + 1) if layer else (2, 0)), False)
            self.assertEqual(powers_of(self.roll, name), [power])
            self.assertEqual(powers_of(self.roll, name, at=3 * layer - 1), [])
            self.assertEqual(since(self.roll, name, power), 3 * layer)
            self.assertEqual(steps_of(self.roll, name), [(3 * layer, [power])])
            self.assertEqual(holders(self.roll, power), [person(number) for number in range(1, layer + 2)])
            self.assertEqual(len(holders(self.roll, (1, 0), at=3 * layer)), layer + 1)

    def test_revoking(self):
        everything = list(self.roll.grants)
        for layer, row in enumerate(ROWS):
            later = everything[3 * layer + 3:]
            self.assertEqual(without(self.roll, row), Roll('ann', grants=everything[:3 * layer]))
            self.assertEqual(shortest(self.roll, row + later), row)
            self.assertEqual(lost_by(self.roll, row), later)
            self.assertEqual(lost_powers(self.roll, row), [(person(k + 1), 1, 20 - k) for k in range(layer, 20)])
            for part in [row[:2], row[1:], row[:1]]:
                self.assertEqual(len(without(self.roll, part)), 60 - len(part))
                self.assertEqual(shortest(self.roll, part), part)
                self.assertEqual([lost_by(self.roll, part), lost_powers(self.roll, part)], [[], []])
        self.assertEqual(shortest(self.roll, everything), ROWS[0])
        self.assertEqual(without(self.roll, everything), Roll('ann'))

    def test_hanging(self):
        tree = hanging_tree(self.roll)
        self.assertEqual(list(tree.items()), [(grant, None) for grant in self.roll.grants])
        for layer, row in enumerate(ROWS):
            for grant in row:
                self.assertEqual(hanging(self.roll, grant), [grant])
                self.assertEqual(hanging_persons(self.roll, grant), [person(k) for k in range(1, layer + 1)])

    def test_hanging_papers(self):
        paper = hanging_paper(self.roll)
        self.assertIsNone(check_hanging(self.roll, paper))
        for place, word in [(1, 'first'), (2, 'second')]:
            wrong = [dict(links) for links in paper]
            wrong[place][ROWS[19][2]] = ROWS[17][0]
            self.assertEqual(check_hanging(self.roll, tuple(wrong)), (word, ROWS[19][2]))
        self.assertEqual(check_hanging(self.roll, (paper[0], paper[1], paper[1])), ('common', ROWS[1][0]))

    def test_hanging_on_a_narrow_place(self):
        rows = layers(many=20)
        rows[10] = rows[10][:1]
        roll = layered_roll(rows)
        tree = hanging_tree(roll)
        self.assertEqual([tree[grant] for row in rows[11:] for grant in row], [rows[10][0]] * 27)
        self.assertEqual(hanging(roll, rows[19][1]), [rows[10][0], rows[19][1]])
        self.assertIsNone(check_hanging(roll, hanging_paper(roll)))
        self.assertEqual(len(strength(roll, person(20), (1, 1))[0]), 1)
        self.assertEqual(len(strength(roll, person(10), (1, 1))[0]), 3)

    def test_one_chain_of_twenty_grants(self):
        rows = layers(wide=1)
        roll = layered_roll(rows)
        everything = list(roll.grants)
        self.assertEqual(hanging(roll, everything[19]), everything)
        self.assertEqual(list(hanging_tree(roll).values()), [None, *everything[:19]])
        self.assertEqual(hanging_paper(roll), (hanging_tree(roll),) * 3)

    def test_strength(self):
        for layer in range(20):
            name, power = person(layer + 1), (1, 20 - layer)
            answer = strength(self.roll, name, power)
            self.assertEqual([len(part) for part in answer], [3, 3])
            self.assertEqual([len(chain) for chain in answer[0]], [layer + 1] * 3)
            self.assertIsNone(check_strength(self.roll, name, power, answer))
            self.assertEqual([keeps(self.roll, name, power, count) for count in (0, 2, 3, 60)],
                             [True, True, False, False])
            self.assertEqual(len(strength(self.roll, name, power, at=3 * layer)[0]), 1)
            self.assertIs(keeps(self.roll, name, power, 1, at=3 * layer), False)

    def test_the_core(self):
        everything = list(self.roll.grants)
        self.assertEqual(core(self.roll), everything)
        for grant in everything[::7]:
            paper = useful_paper(self.roll, grant)
            self.assertEqual([paper[0], check_useful(self.roll, grant, paper)], ['useful', None])
        for row in ROWS:
            rest = self.roll.only([grant for grant in everything if grant not in row[1:]])
            self.assertIsNone(gives_no_more(rest, self.roll))
            found = same_under_revoking(rest, self.roll)
            self.assertEqual(found[-1], row[1])
            self.assertIs(separates(rest, self.roll, found), True)
            self.assertIs(separates(rest, self.roll, rest.grants), False)
            self.assertIsNone(alike_paper(rest, self.roll))
        self.assertEqual(alike_paper(self.roll, layered_roll(ROWS)), ([], []))

    def test_idle_grants(self):
        # The last layer goes back to who had the right first.
        back = [(57 + k, person(19), person(1), 1, 1) for k in range(3)]
        core_grants = list(self.roll.grants[:57])
        one = Roll('ann', grants=core_grants + back)
        other = Roll('ann', grants=core_grants)
        self.assertEqual(core(one), core_grants)
        paper = alike_paper(one, other)
        self.assertEqual([[grant for grant, _ in paper[0]], paper[1]], [back, []])
        self.assertIsNone(check_alike(one, other, paper))
        self.assertIsNone(same_under_revoking(one, other))
        self.assertIs(separates(one, other, one.grants), False)

    def test_standing_sets(self):
        everything = list(self.roll.grants)
        self.assertIs(is_standing(self.roll, everything), True)
        for layer, row in enumerate(ROWS):
            rest = [grant for grant in everything if grant not in row]
            self.assertIs(is_standing(self.roll, rest), layer == 19)
            self.assertEqual(standing_part(self.roll, rest), everything[:3 * layer])
        check_error(self, TooMany, [lambda: standing_count(self.roll), lambda: standing_at(self.roll, 0),
                                    lambda: standing_index(self.roll, []), lambda: build_orders(self.roll),
                                    lambda: list(minimal_sets(self.roll, everything[0]))])

    def test_two_rolls(self):
        everything = list(self.roll.grants)
        other = self.roll.only(everything[:57])
        self.assertEqual(later_grant(self.roll, other, 'zoe'), (60, person(20), 'zoe', 1, 0))
        self.assertEqual(same_under_adding(self.roll, other), ([], person(20), 57))
        self.assertIs(adding_tells(self.roll, other, ([], person(20), 57)), True)
        # Without the owner's grants nothing counts, until one such grant is added.
        one, other = self.roll.only(everything[3:]), self.roll.only(everything[3:59])
        added, name, at = same_under_adding(one, other.only(other.grants[:54]))
        self.assertEqual(([grant[1:3] for grant in added], name, at), ([('ann', person(19))], person(20), 57))
        for roll in (other, other.only(other.grants[:54]), one.only(one.grants[1:]), self.roll):
            self.assertIs(always_tells(one, roll, same_always(one, roll)), True)
        self.assertIs(adding_tells(one, Roll('ann'), (ROWS[0], person(20), 57)), True)
        self.assertIs(adding_tells(one, Roll('ann'), (ROWS[1], person(20), 57)), False)
        self.assertIs(always_tells(one, Roll('ann'), (ROWS[0], everything[::-1], person(20), 57)), True)
        self.assertIs(always_tells(one, Roll('ann'), (ROWS[0], everything[3:], person(20), 57)), False)

    def test_the_ledger(self):
        ledger = Ledger('ann')
        gives = [('give', *grant[1:]) for grant in self.roll.grants]
        # All times are one more than those of the roll.
        given = ledger.attempt(gives)
        self.assertEqual(given, [(grant[0] + 1, *grant[1:]) for grant in self.roll.grants])
        self.assertEqual(ledger.leave(person(10)), given[27:])
        ledger.back()
        for grant in given[30:33]:
            gone = ledger.revoke(grant)
        self.assertEqual(gone, given[32:])
        for _ in range(4):
            ledger.back()
        self.assertEqual(len(ledger.roll), 0)
        ledger.again()
        self.assertEqual(ledger.roll.grants, tuple(given))


class ManyEntriesTest(unittest.TestCase):
    """Arguments of 5,000 parts, for a roll of 60 grants."""

    def test_each_within_a_moment(self):
        roll = layered_roll(ROWS)
        begin = time.perf_counter()
        many = list(reversed(roll.grants)) * 80
        self.assertEqual(without(roll, many), Roll('ann'))
        self.assertEqual(shortest(roll, many), ROWS[0])
        self.assertEqual([lost_by(roll, many), len(lost_powers(roll, many))], [[], 20])
        self.assertEqual(check_strength(roll, person(1), (1, 1), ([many], many)), ('chain', 0))
        self.assertEqual(check_strength(roll, person(1), (1, 1), ([ROWS[0][:1]] * 800, many)), ('twice', 1))
        self.assertEqual(check_strength(roll, person(1), (1, 1), ([[grant] for grant in ROWS[0]], many)), ('cut',))
        links = {number: many for number in range(60)}
        self.assertEqual(check_hanging(roll, (links, links, links)), ('paper',))
        self.assertLess(time.perf_counter() - begin, 5)


if __name__ == '__main__':
    unittest.main()
