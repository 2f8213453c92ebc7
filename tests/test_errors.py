import unittest

from grantroll import errors

WITHOUT_VALUE = [
    'InvalidDeeds', 'InvalidGrants', 'InvalidName', 'InvalidPower', 'InvalidTime', 'NotStanding',
    'NothingToRedo', 'NothingToUndo', 'OtherOwners', 'OwnerLeaves', 'OwnerPower',
]
WITH_VALUE = {
    'InvalidCount': 'count', 'InvalidDeed': 'number', 'InvalidGrant': 'reason', 'InvalidIndex': 'index',
    'InvalidRoll': 'reason', 'InvalidText': 'row', 'KnownName': 'name', 'NotCounting': 'grant',
    'TooMany': 'count', 'UnknownGrant': 'grant',
}


class ErrorsTest(unittest.TestCase):
    def test_base_class(self):
        self.assertEqual(errors.GrantrollError.__bases__, (ValueError,))
        self.assertEqual(str(errors.GrantrollError('why')), 'why')
        self.assertIsInstance(errors.GrantrollError(), ValueError)

    def test_there_are_no_other_errors(self):
        classes = [name for name, value in vars(errors).items() if isinstance(value, type)]
        self.assertEqual(sorted(classes), sorted(['GrantrollError', *WITHOUT_VALUE, *WITH_VALUE]))

    def test_each_error_is_a_subclass_of_the_base_and_of_no_other(self):
        for name in [*WITHOUT_VALUE, *WITH_VALUE]:
            with self.subTest(name):
                self.assertEqual(getattr(errors, name).__mro__[1:3], (errors.GrantrollError, ValueError))
                self.assertEqual(getattr(errors, name).__module__, 'grantroll.errors')

    def test_errors_without_a_value(self):
        for name in WITHOUT_VALUE:
            with self.subTest(name):
                self.assertIsInstance(getattr(errors, name)(), errors.GrantrollError)
                self.assertEqual(str(getattr(errors, name)('the words')), 'the words')

    def test_errors_with_a_value_store_it_unchanged(self):
        for name, attribute in WITH_VALUE.items():
            for value in [None, 3, True, 'word', ('grant', 0, ('time',)), [1, [2]], {'a': 1}]:
                with self.subTest(name, value=value):
                    error = getattr(errors, name)
                    self.assertIs(getattr(error(value), attribute), value)
                    self.assertIs(getattr(error(**{attribute: value}), attribute), value)
                    self.assertIsInstance(str(error(value)), str)

    def test_errors_with_a_value_take_just_one(self):
        for name in WITH_VALUE:
            with self.subTest(name):
                self.assertRaises(TypeError, getattr(errors, name))
                self.assertRaises(TypeError, getattr(errors, name), 1, 2)

    def test_they_can_be_raised_and_caught_as_the_base(self):
        for name in WITH_VALUE:
            with self.assertRaises(errors.GrantrollError):
                raise getattr(errors, name)(('some', 'value'))


if __name__ == '__main__':
    unittest.main()
