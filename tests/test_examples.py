"""The examples of the document for what has landed, and those of README.md."""

import doctest
import unittest
from pathlib import Path

EXAMPLES = {
    'grants': """
    >>> from grantroll.grants import grant_error, supports
    >>> [grant_error((1, 'ann', 'ann', 5, 2)), supports((1, 'ann', 'bo', 5, 2), (2, 'bo', 'cy', 3, 1))]
    [('same',), True]
    """,
    'rolls': """
    >>> from grantroll.rolls import Roll
    >>> grants = [(1, 'ann', 'bo', 5, 2), (1, 'bo', 'di', 2, 0), (2, 'bo', 'cy', 3, 1), (3, 'cy', 'di', 3, 0)]
    >>> roll = Roll('ann', grants=grants)
    >>> [roll.owners, roll.persons, len(roll), len(roll.only(grants[:2])), None in roll]
    [('ann',), ('bo', 'cy', 'di'), 4, 2, False]
    """,
    'counting': """
    >>> from grantroll.counting import chains, counts, why
    >>> from grantroll.rolls import Roll
    >>> grants = [(1, 'ann', 'bo', 5, 2), (1, 'bo', 'di', 2, 0), (2, 'bo', 'cy', 3, 1), (3, 'cy', 'di', 3, 0)]
    >>> roll = Roll('ann', grants=grants)
    >>> [counts(roll, grants[1]), list(chains(roll, grants[2])), why(roll, grants[1])[0]]
    [False, [[(1, 'ann', 'bo', 5, 2), (2, 'bo', 'cy', 3, 1)]], 'closed']
    """,
    'powers': """
    >>> from grantroll.powers import has, powers_of, since, steps_of
    >>> from grantroll.rolls import Roll
    >>> grants = [(1, 'ann', 'bo', 5, 2), (1, 'bo', 'di', 2, 0), (2, 'bo', 'cy', 3, 1), (3, 'cy', 'di', 3, 0)]
    >>> roll = Roll('ann', grants=grants)
    >>> [powers_of(roll, 'cy'), since(roll, 'di', (3, 0)), has(roll, 'di', (3, 0), at=2), steps_of(roll, 'bo')]
    [[(3, 1)], 3, False, [(1, [(5, 2)])]]
    """,
    'revoking': """
    >>> from grantroll.revoking import lost_by, lost_powers, without
    >>> from grantroll.rolls import Roll
    >>> grants = [(1, 'ann', 'bo', 5, 3), (2, 'bo', 'cy', 4, 2), (3, 'ann', 'cy', 2, 2), (5, 'cy', 'di', 2, 1)]
    >>> roll = Roll('ann', grants=grants)
    >>> [lost_by(roll, grants[:1]), lost_powers(roll, grants[:1]), len(without(roll, grants[1:2]))]
    [[(2, 'bo', 'cy', 4, 2)], [('bo', 5, 3), ('cy', 4, 2)], 3]
    """,
    'hanging': """
    >>> from grantroll.hanging import hanging, hanging_persons
    >>> from grantroll.rolls import Roll
    >>> grants = [(1, 'ann', 'bo', 5, 3), (2, 'bo', 'cy', 4, 2), (3, 'ann', 'cy', 2, 2), (5, 'cy', 'di', 2, 1)]
    >>> roll = Roll('ann', grants=grants)
    >>> [hanging(roll, grants[3]), hanging(roll, grants[1]), hanging_persons(roll, grants[3])]
    [[(5, 'cy', 'di', 2, 1)], [(1, 'ann', 'bo', 5, 3), (2, 'bo', 'cy', 4, 2)], ['cy']]
    """,
    'strength': """
    >>> from grantroll.strength import keeps, strength
    >>> from grantroll.rolls import Roll
    >>> grants = [(1, 'ann', 'bo', 5, 3), (2, 'bo', 'cy', 4, 2), (3, 'ann', 'cy', 2, 2), (5, 'cy', 'di', 2, 1)]
    >>> roll = Roll('ann', grants=grants)
    >>> [[len(part) for part in strength(roll, 'cy', (2, 2))], keeps(roll, 'di', (1, 0), 1)]
    [[2, 2], False]
    """,
    'cores': """
    >>> from grantroll.cores import core, same_under_revoking, useful_paper
    >>> from grantroll.rolls import Roll
    >>> grants = [(1, 'ann', 'bo', 5, 3), (2, 'bo', 'cy', 4, 2), (3, 'ann', 'cy', 2, 2), (5, 'cy', 'di', 2, 1)]
    >>> roll = Roll('ann', grants=grants)
    >>> wide = Roll('ann', grants=grants + [(6, 'di', 'cy', 1, 0)])
    >>> [core(wide) == grants, same_under_revoking(wide, roll), useful_paper(wide, (6, 'di', 'cy', 1, 0))[0]]
    [True, None, 'idle']
    """,
    'standing': """
    >>> from grantroll.standing import build_orders, minimal_sets, standing_at, standing_count
    >>> from grantroll.rolls import Roll
    >>> grants = [(1, 'ann', 'bo', 5, 3), (2, 'bo', 'cy', 4, 2), (3, 'ann', 'cy', 2, 2), (5, 'cy', 'di', 2, 1)]
    >>> roll = Roll('ann', grants=grants)
    >>> [standing_count(roll), build_orders(roll), [len(some) for some in minimal_sets(roll, grants[3])],
    ...  standing_at(roll, 1)]
    [10, 7, [3, 2], [(1, 'ann', 'bo', 5, 3)]]
    """,
    'joins': """
    >>> from grantroll.joins import adding_tells, later_grant, same_under_adding
    >>> from grantroll.rolls import Roll
    >>> grants = [(1, 'ann', 'bo', 5, 2), (1, 'bo', 'di', 2, 0), (2, 'bo', 'cy', 3, 1), (3, 'cy', 'di', 3, 0)]
    >>> roll = Roll('ann', grants=grants)
    >>> less = roll.only(grants[:3])
    >>> [later_grant(roll, less, 'ed'), adding_tells(roll, less, same_under_adding(roll, less)), (roll - less).grants]
    [None, True, ((3, 'cy', 'di', 3, 0),)]
    """,
    'adding': """
    >>> from grantroll.joins import adding_tells
    >>> from grantroll.rolls import Roll
    >>> one = Roll('ann', grants=[(2, 'bo', 'cy', 1, 0)])
    >>> adding_tells(one, Roll('ann'), ([(1, 'ann', 'bo', 1, 1)], 'cy', 2))
    True
    """,
    'ledger': """
    >>> from grantroll.ledger import Ledger
    >>> ledger = Ledger('ann')
    >>> first = ledger.give('ann', 'bo', 5, 2)
    >>> second = ledger.give('bo', 'cy', 3, 1)
    >>> [ledger.revoke(first), ledger.now, ledger.roll.grants, ledger.log[2]]
    [[(1, 'ann', 'bo', 5, 2), (2, 'bo', 'cy', 3, 1)], 3, (), ('revoke', (1, 'ann', 'bo', 5, 2))]
    """,
    'attempt': """
    >>> from grantroll.errors import NotCounting
    >>> from grantroll.ledger import Ledger
    >>> ledger = Ledger('ann')
    >>> try:
    ...     ledger.attempt([('give', 'ann', 'bo', 5, 2), ('give', 'cy', 'di', 1, 0)])
    ... except NotCounting as error:
    ...     print(f'raises NotCounting(grant={error.grant})')
    raises NotCounting(grant=(2, 'cy', 'di', 1, 0))
    """,
    'texts': """
    >>> from grantroll.rolls import Roll
    >>> roll = Roll.read('owners ann\\n1 ann bo 5 2')
    >>> [roll.grants, str(roll)]
    [((1, 'ann', 'bo', 5, 2),), 'owners ann\\n1 ann bo 5 2']
    """,
}


class ExamplesTest(unittest.TestCase):
    def run_examples(self, name, text):
        examples = doctest.DocTestParser().get_doctest(text, {}, name, name, 0)
        report = []
        result = doctest.DocTestRunner(verbose=False).run(examples, out=report.append)
        self.assertGreater(result.attempted, 0)
        self.assertEqual(result.failed, 0, ''.join(report))

    def test_examples_of_the_document(self):
        for name, text in EXAMPLES.items():
            with self.subTest(name):
                self.run_examples(name, text)

    def test_examples_of_the_readme(self):
        readme = Path(__file__).resolve().parent.parent / 'README.md'
        self.run_examples('README.md', readme.read_text())


if __name__ == '__main__':
    unittest.main()
