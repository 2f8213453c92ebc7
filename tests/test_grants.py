import unittest

from grantroll.errors import InvalidGrant
from grantroll.grants import grant_error, supports
from tests.samples import ODD_VALUES, deep_value, plainly_supports

GOOD = (1, 'ann', 'bo', 5, 2)
BIG = 10 ** 30


def changed(place, value):
    """The good grant with another entry at this place."""
    return (*GOOD[:place], value, *GOOD[place + 1:])


class GrantErrorTest(unittest.TestCase):
    def check(self, place, good, bad, reason):
        for value in good:
            with self.subTest(value=value):
                self.assertIsNone(grant_error(changed(place, value)))
        for value in bad:
            with self.subTest(value=value):
                self.assertEqual(grant_error(changed(place, value)), (reason,))

    def test_not_a_tuple_of_five(self):
        wrong = [None, True, 7, '', 'abcde', [], (), list(GOOD), GOOD[:4], GOOD + (1,), (GOOD,), {},
                 dict.fromkeys(GOOD), deep_value()]
        for value in wrong:
            with self.subTest(value=value):
                self.assertEqual(grant_error(value), ('grant',))

    def test_times(self):
        good = [0, 1, -1, BIG, -BIG, BIG - 1, 1 - BIG]
        bad = [BIG + 1, -BIG - 1, 10 ** 999, -10 ** 999, True, False, None, '1', 'ann', (1,), [1], {}, deep_value()]
        self.check(0, good, bad, 'time')

    def test_givers_and_takers(self):
        good = ['a', 'z', 'az', 'owners', 'abcdefgh', 'zzzzzzzz']
        bad = ['', 'abcdefghi', 'x' * 5000, 'Ann', 'aNn', 'a1', '1', 'a b', ' a', 'a ', 'a\n', '\n', 'a_b', 'a-b',
               '`', '{', 'a`', 'a{', None, True, 1, ('a',), ['a'], [], {}, deep_value()]
        self.check(1, good, bad, 'giver')
        self.check(2, good, bad, 'taker')
        self.assertEqual(grant_error(changed(1, '\u00e9')), ('giver',))

    def test_same_names(self):
        self.assertEqual(grant_error((1, 'ann', 'ann', 5, 2)), ('same',))
        self.assertEqual(grant_error((1, 'ann', 'ann', 0, -1)), ('same',))
        self.assertIsNone(grant_error((1, 'ann', 'anna', 5, 2)))

    def test_levels(self):
        bad = [0, 10, -1, BIG, True, False, None, '5', (5,), [], deep_value()]
        self.check(3, range(1, 10), bad, 'level')

    def test_passes(self):
        bad = [-1, 21, BIG, -BIG, True, False, None, '2', (2,), [], deep_value()]
        self.check(4, range(0, 21), bad, 'passes')

    def test_the_first_reason_that_applies(self):
        entries = [None, None, None, None, None]
        expected = [('time',), ('giver',), ('taker',), ('level',), ('passes',), None]
        for place in range(6):
            with self.subTest(place=place):
                self.assertEqual(grant_error(tuple(entries)), expected[place])
                if place < 5:
                    entries[place] = GOOD[place]

    def test_equal_names_that_are_none_are_no_same(self):
        self.assertEqual(grant_error((1, '', '', 5, 2)), ('giver',))
        self.assertEqual(grant_error((1, 'ann', '', 5, 2)), ('taker',))

    def test_a_boolean_is_no_integer(self):
        self.assertEqual(grant_error((True, 'ann', 'bo', 5, 2)), ('time',))
        self.assertEqual(grant_error((1, 'ann', 'bo', True, 2)), ('level',))
        self.assertEqual(grant_error((1, 'ann', 'bo', 5, False)), ('passes',))

    def test_the_value_is_not_modified(self):
        value = [1, ['ann'], 'bo']
        self.assertEqual(grant_error((value, 'ann', 'bo', 5, 2)), ('time',))
        self.assertEqual(value, [1, ['ann'], 'bo'])


class SupportsTest(unittest.TestCase):
    def test_each_condition_at_its_edge(self):
        first = (1, 'ann', 'bo', 5, 2)
        cases = [
            ((2, 'bo', 'cy', 5, 1), True),
            ((2, 'bo', 'ann', 5, 1), True),
            ((1, 'bo', 'cy', 5, 1), False),
            ((0, 'bo', 'cy', 5, 1), False),
            ((2, 'bo', 'cy', 6, 1), False),
            ((2, 'bo', 'cy', 1, 1), True),
            ((2, 'bo', 'cy', 5, 2), False),
            ((2, 'bo', 'cy', 5, 3), False),
            ((2, 'bo', 'cy', 5, 0), True),
            ((2, 'cy', 'bo', 5, 1), False),
            ((2, 'ann', 'bo', 5, 1), False),
            ((BIG, 'bo', 'cy', 5, 1), True),
            ((-BIG, 'bo', 'cy', 5, 1), False),
        ]
        for second, expected in cases:
            with self.subTest(second=second):
                self.assertIs(supports(first, second), expected)

    def test_against_the_words_of_the_document(self):
        some = [(time, giver, taker, level, passes) for time in (-1, 0) for giver in ('a', 'b', 'c')
                for taker in ('a', 'b', 'c') if giver != taker for level in (1, 2) for passes in (0, 1)]
        for first in some:
            for second in some:
                self.assertIs(supports(first, second), plainly_supports(first, second))

    def test_the_least_and_greatest_times(self):
        self.assertIs(supports((-BIG, 'a', 'b', 1, 1), (1 - BIG, 'b', 'c', 1, 0)), True)
        self.assertIs(supports((BIG - 1, 'a', 'b', 1, 1), (BIG, 'b', 'c', 1, 0)), True)

    def test_the_error_names_the_reason_of_the_first_wrong_argument(self):
        for value in ODD_VALUES:
            with self.subTest(value=value):
                with self.assertRaises(InvalidGrant) as caught:
                    supports(value, GOOD)
                self.assertEqual(caught.exception.reason, grant_error(value))
                with self.assertRaises(InvalidGrant) as caught:
                    supports(GOOD, value)
                self.assertEqual(caught.exception.reason, grant_error(value))
        with self.assertRaises(InvalidGrant) as caught:
            supports((1, 'ann', 'bo', 5, 21), None)
        self.assertEqual(caught.exception.reason, ('passes',))
        with self.assertRaises(InvalidGrant) as caught:
            supports(None, (1, 'ann', 'bo', 5, 21))
        self.assertEqual(caught.exception.reason, ('grant',))

    def test_arguments_by_name(self):
        self.assertIs(supports(second=(2, 'bo', 'cy', 3, 1), first=GOOD), True)
        self.assertIsNone(grant_error(value=GOOD))


if __name__ == '__main__':
    unittest.main()
