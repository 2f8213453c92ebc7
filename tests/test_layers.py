"""60 grants in twenty layers of three, each of which supports each one of the next layer: 3 ** 19 chains and more."""

import time
import unittest

from grantroll.hanging import check_hanging, hanging, hanging_paper, hanging_persons, hanging_tree
from grantroll.powers import has, holders, powers_of, since, steps_of
from grantroll.revoking import lost_by, lost_powers, shortest, without
from grantroll.rolls import Roll
from grantroll.strength import check_strength, keeps, strength
from tests.samples import layered_roll, layers, person

ROWS = layers()


class LayersTest(unittest.TestCase):
    def setUp(self):
        self.roll = layered_roll(ROWS)
        self.begin = time.perf_counter()

    def tearDown(self):
        # Far more than is needed, and far less than going through the chains would take.
        self.assertLess(time.perf_counter() - self.begin, 5)

    def test_powers(self):
        for layer in range(20):
            name, power = person(layer + 1), (1, 20 - layer)
            self.assertEqual([has(self.roll, name, power, at=at) for at in (3 * layer - 1, 3 * layer, None)],
                             [False, True, True])
            self.assertIs(has(self.roll, name, (1, 20 - layer + 1) if layer else (2, 0)), False)
            self.assertEqual(powers_of(self.roll, name), [power])
            self.assertEqual(powers_of(self.roll, name, at=3 * layer - 1), [])
            self.assertEqual(since(self.roll, name, power), 3 * layer)
            self.assertEqual(steps_of(self.roll, name), [(3 * layer, [power])])
            self.assertEqual(holders(self.roll, power), [person(number) for number in range(1, layer + 2)])
            self.assertEqual(len(holders(self.roll, (1, 0), at=3 * layer)), layer + 1)

    def test_revoking(self):
        everything = list(self.roll.grants)
        for layer, row in enumerate(ROWS):
            later = everything[3 * layer + 3:]
            self.assertEqual(without(self.roll, row), Roll('ann', grants=everything[:3 * layer]))
            self.assertEqual(shortest(self.roll, row + later), row)
            self.assertEqual(lost_by(self.roll, row), later)
            self.assertEqual(lost_powers(self.roll, row), [(person(k + 1), 1, 20 - k) for k in range(layer, 20)])
            for part in [row[:2], row[1:], row[:1]]:
                self.assertEqual(len(without(self.roll, part)), 60 - len(part))
                self.assertEqual(shortest(self.roll, part), part)
                self.assertEqual([lost_by(self.roll, part), lost_powers(self.roll, part)], [[], []])
        self.assertEqual(shortest(self.roll, everything), ROWS[0])
        self.assertEqual(without(self.roll, everything), Roll('ann'))

    def test_hanging(self):
        tree = hanging_tree(self.roll)
        self.assertEqual(list(tree.items()), [(grant, None) for grant in self.roll.grants])
        for layer, row in enumerate(ROWS):
            for grant in row:
                self.assertEqual(hanging(self.roll, grant), [grant])
                self.assertEqual(hanging_persons(self.roll, grant), [person(k) for k in range(1, layer + 1)])

    def test_hanging_papers(self):
        paper = hanging_paper(self.roll)
        self.assertIsNone(check_hanging(self.roll, paper))
        for place, word in [(1, 'first'), (2, 'second')]:
            wrong = [dict(links) for links in paper]
            wrong[place][ROWS[19][2]] = ROWS[17][0]
            self.assertEqual(check_hanging(self.roll, tuple(wrong)), (word, ROWS[19][2]))
        self.assertEqual(check_hanging(self.roll, (paper[0], paper[1], paper[1])), ('common', ROWS[1][0]))

    def test_hanging_on_a_narrow_place(self):
        rows = layers(many=20)
        rows[10] = rows[10][:1]
        roll = layered_roll(rows)
        tree = hanging_tree(roll)
        self.assertEqual([tree[grant] for row in rows[11:] for grant in row], [rows[10][0]] * 27)
        self.assertEqual(hanging(roll, rows[19][1]), [rows[10][0], rows[19][1]])
        self.assertIsNone(check_hanging(roll, hanging_paper(roll)))
        self.assertEqual(len(strength(roll, person(20), (1, 1))[0]), 1)
        self.assertEqual(len(strength(roll, person(10), (1, 1))[0]), 3)

    def test_one_chain_of_twenty_grants(self):
        rows = layers(wide=1)
        roll = layered_roll(rows)
        everything = list(roll.grants)
        self.assertEqual(hanging(roll, everything[19]), everything)
        self.assertEqual(list(hanging_tree(roll).values()), [None, *everything[:19]])
        self.assertEqual(hanging_paper(roll), (hanging_tree(roll),) * 3)

    def test_strength(self):
        for layer in range(20):
            name, power = person(layer + 1), (1, 20 - layer)
            answer = strength(self.roll, name, power)
            self.assertEqual([len(part) for part in answer], [3, 3])
            self.assertEqual([len(chain) for chain in answer[0]], [layer + 1] * 3)
            self.assertIsNone(check_strength(self.roll, name, power, answer))
            self.assertEqual([keeps(self.roll, name, power, count) for count in (0, 2, 3, 60)],
                             [True, True, False, False])
            self.assertEqual(len(strength(self.roll, name, power, at=3 * layer)[0]), 1)
            self.assertIs(keeps(self.roll, name, power, 1, at=3 * layer), False)


class ManyEntriesTest(unittest.TestCase):
    """Arguments of 5,000 parts, for a roll of 60 grants."""

    def test_each_within_a_moment(self):
        roll = layered_roll(ROWS)
        begin = time.perf_counter()
        many = list(reversed(roll.grants)) * 80
        self.assertEqual(without(roll, many), Roll('ann'))
        self.assertEqual(shortest(roll, many), ROWS[0])
        self.assertEqual([lost_by(roll, many), len(lost_powers(roll, many))], [[], 20])
        self.assertEqual(check_strength(roll, person(1), (1, 1), ([many], many)), ('chain', 0))
        self.assertEqual(check_strength(roll, person(1), (1, 1), ([ROWS[0][:1]] * 800, many)), ('twice', 1))
        self.assertEqual(check_strength(roll, person(1), (1, 1), ([[grant] for grant in ROWS[0]], many)), ('cut',))
        links = {number: many for number in range(60)}
        self.assertEqual(check_hanging(roll, (links, links, links)), ('paper',))
        self.assertLess(time.perf_counter() - begin, 5)


if __name__ == '__main__':
    unittest.main()
