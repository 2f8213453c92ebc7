import unittest

from grantroll.errors import InvalidText
from grantroll.rolls import Roll
from tests.samples import FOUR, four_roll, layered_roll, layers, random_rolls

TEXT = 'owners ann\n1 ann bo 5 2\n1 bo di 2 0\n2 bo cy 3 1\n3 cy di 3 0'
BIG = 10 ** 30


class TextTest(unittest.TestCase):
    def row(self, text):
        with self.assertRaises(InvalidText) as caught:
            Roll.read(text)
        return caught.exception.row

    def check_line(self, good, bad):
        """The lines are right, or wrong, as the second line behind the first grant."""
        for line in good:
            with self.subTest(line=line):
                self.assertEqual(str(Roll.read('owners ann\n-9 ann bo 1 1\n' + line)).split('\n')[2], line)
        for line in bad:
            with self.subTest(line=line):
                self.assertEqual(self.row('owners ann\n-9 ann bo 1 1\n' + line), 2)
                self.assertEqual(self.row('owners ann\n-9 ann bo 1 1\n' + line + '\nowners\n'), 2)

    def test_the_text_of_a_roll(self):
        self.assertEqual(str(four_roll()), TEXT)
        self.assertEqual(str(Roll('cy', 'ann')), 'owners ann cy')
        self.assertEqual(str(Roll('a', grants=[(BIG, 'a', 'b', 9, 20), (-BIG, 'c', 'b', 1, 0), (0, 'c', 'b', 1, 10)])),
                         f'owners a\n-{BIG} c b 1 0\n0 c b 1 10\n{BIG} a b 9 20')

    def test_texts_are_read_back(self):
        full = Roll('zzzzzzzz', 'yyyyyyyy', 'xxxxxxxx', 'wwwwwwww',
                    grants=[(k - BIG, 'abcdefgh', 'hgfedcba', 9, 20) for k in range(60)])
        for roll in [four_roll(), Roll('ann'), Roll('d', 'c', 'b', 'a'), full, layered_roll(layers()),
                     *random_rolls(40, 12, seed=3)]:
            text = str(roll)
            self.assertEqual(Roll.read(text), roll)
            self.assertEqual(str(Roll.read(text)), text)
        self.assertEqual(len(str(full).split('\n')), 61)
        self.assertIs(type(Roll.read(TEXT)), Roll)
        self.assertEqual(Roll.read(text=TEXT).grants, tuple(FOUR))

    def test_names_that_look_like_the_first_word(self):
        roll = Roll('owners', grants=[(1, 'owners', 'owner', 1, 1)])
        self.assertEqual(Roll.read('owners owners\n1 owners owner 1 1'), roll)

    def test_wrong_first_lines(self):
        for line in ['', ' ', '\t', 'owners', 'owners ', 'owner ann', 'Owners ann', ' owners ann', 'owners  ann', 'owners ann ',
                     'owners\tann', 'owners ann\t', 'owners,ann', 'ann', 'ownersann', 'owners Ann', 'owners ann1', 'owners 1',
                     'owners abcdefghi', 'owners ann ann', 'owners bo ann', 'owners a b c d e', 'owners a b c d c',
                     'owners ann  bo', '1 ann bo 5 2', 'owners ann,bo', 'owners ann bo 5']:
            with self.subTest(line=line):
                self.assertEqual(self.row(line), 0)
                self.assertEqual(self.row(line + '\n1 ann bo 5 2'), 0)
        self.assertEqual(Roll.read('owners a b c d').owners, ('a', 'b', 'c', 'd'))

    def test_the_empty_string_and_empty_lines(self):
        self.assertEqual(self.row(''), 0)
        self.assertEqual(self.row('\n'), 0)
        self.assertEqual(self.row('\nowners ann'), 0)
        self.assertEqual(self.row('owners ann\n\n1 ann bo 5 2'), 1)

    def test_a_newline_at_the_end(self):
        self.assertEqual(self.row('owners ann\n'), 1)
        self.assertEqual(self.row(TEXT + '\n'), 5)
        self.assertEqual(self.row(TEXT + '\n\n'), 5)

    def test_separators(self):
        self.check_line(['1 ann bo 5 2'], [
            '1  ann bo 5 2', ' 1 ann bo 5 2', '1 ann bo 5 2 ', '1 ann bo 5  2', '1\tann bo 5 2', '1 ann bo 5\t2', '\t1 ann bo 5 2',
            '1 ann bo 5 2\t', '1 ann\tbo 5 2', '1,ann,bo,5,2', '1 ann bo 52', '1 ann bo 5', '1 ann bo 5 2 0', 'ann bo 5 2', '     ',
            '1 ann  5 2', '(1, ann, bo, 5, 2)', '1 ann bo', '1'])

    def test_numbers(self):
        good = ['0 ann bo 5 2', '-1 ann bo 5 2', '10 ann bo 5 2', f'{BIG} ann bo 5 2', '7 ann bo 1 0', '7 ann bo 9 20']
        bad = ['01 ann bo 5 2', '00 ann bo 5 2', '-0 ann bo 5 2', '-01 ann bo 5 2', '+1 ann bo 5 2', '--1 ann bo 5 2',
               '- ann bo 5 2', '-1- ann bo 5 2', '1_0 ann bo 5 2', '1.0 ann bo 5 2', '1e3 ann bo 5 2', 'x ann bo 5 2',
               '0x1 ann bo 5 2', f'{BIG + 1} ann bo 5 2', '9' * 3900 + ' ann bo 5 2', '1 ann bo 05 2', '1 ann bo 5 02',
               '1 ann bo 5 00', '1 ann bo 5 -0', '1 ann bo -5 2', '1 ann bo 0 2', '1 ann bo 10 2', '1 ann bo 5 -1', '1 ann bo 5 21',
               '1 ann bo five 2', '1 ann bo 5 x', '1 ann bo +5 2', 'True ann bo 5 2', 'None ann bo 5 2']
        self.check_line(good, bad)

    def test_the_least_time(self):
        self.assertEqual(Roll.read(f'owners ann\n-{BIG} ann bo 5 2').grants, ((-BIG, 'ann', 'bo', 5, 2),))
        self.assertEqual(self.row(f'owners ann\n-{BIG + 1} ann bo 5 2'), 1)

    def test_names(self):
        self.check_line(['1 zoe abcdefgh 5 2'], [
            '1 Ann bo 5 2', '1 ann Bo 5 2', '1 ann bo1 5 2', '1 abcdefghi bo 5 2', '1 ann abcdefghi 5 2', '1 bo bo 5 2',
            '1 5 bo 5 2', "1 'ann' bo 5 2"])

    def test_takers_that_are_owners(self):
        self.check_line(['1 cy bo 5 2'], ['1 bo ann 5 2'])
        self.assertEqual(self.row('owners ann bo\n1 ann bo 5 2'), 1)

    def test_rows_out_of_order_or_repeated(self):
        self.assertEqual(self.row('owners ann\n2 ann bo 5 2\n1 ann bo 5 2'), 2)
        self.assertEqual(self.row('owners ann\n1 ann bo 5 2\n1 ann bo 5 2'), 2)
        self.assertEqual(self.row('owners ann\n1 ann cy 5 2\n1 ann bo 5 2'), 2)
        self.assertEqual(self.row('owners ann\n1 bo cy 5 2\n1 ann cy 5 2'), 2)
        self.assertEqual(self.row('owners ann\n1 ann bo 5 2\n1 ann bo 4 2\n0 ann bo 4 2'), 2)
        self.assertEqual(self.row('owners ann\n1 ann bo 5 2\n1 ann bo 5 1'), 2)
        # Numbers are ordered as numbers, not as words.
        self.assertEqual(len(Roll.read('owners ann\n9 ann bo 5 2\n9 ann bo 5 10\n10 ann bo 5 2')), 3)
        self.assertEqual(self.row('owners ann\n10 ann bo 5 2\n9 ann bo 5 2'), 2)
        self.assertEqual(self.row('owners ann\n-1 ann bo 5 2\n-2 ann bo 5 2'), 2)

    def test_sixty_one_rows_of_grants(self):
        lines = ['owners ann', *[f'{time} ann bo 5 2' for time in range(60)]]
        self.assertEqual(len(Roll.read('\n'.join(lines))), 60)
        self.assertEqual(self.row('\n'.join([*lines, '60 ann bo 5 2'])), 61)
        self.assertEqual(self.row('\n'.join([*lines, '60 ann bo 5 2', 'x'])), 61)
        self.assertEqual(self.row('\n'.join([*lines, ''])), 61)
        self.assertEqual(self.row('\n'.join([*lines[:31], 'x', *lines[31:], '60 ann bo 5 2'])), 31)

    def test_the_least_row_of_several_wrong_ones(self):
        self.assertEqual(self.row('owners\n1 ann'), 0)
        self.assertEqual(self.row('owners ann\n1 ann bo 5 2\nx\ny'), 2)
        self.assertEqual(self.row('owners ann\n5 ann bo 5 2\n4 ann bo 5 2\n-0 ann bo 5 2'), 2)

    def test_other_signs_do_not_separate_lines(self):
        self.assertEqual(self.row('owners ann\t1 ann bo 5 2'), 0)
        self.assertEqual(self.row('owners ann\n1 ann bo 5 2\t2 ann bo 5 2'), 1)

    def test_every_text_that_is_changed_in_one_place_is_another_roll_or_wrong(self):
        for place in range(len(TEXT)):
            for sign in ['', ' ', '\n', '\t', '0', '1', '-', 'a', 'z', '~']:
                text = TEXT[:place] + sign + TEXT[place + 1:]
                if text == TEXT:
                    continue
                row = TEXT[:place].count('\n')
                try:
                    self.assertEqual(str(Roll.read(text)), text)
                except InvalidText as error:
                    self.assertGreaterEqual(error.row, row)


if __name__ == '__main__':
    unittest.main()
