"""Point 2.4 and the list of errors in "The interface"."""

import inspect
import unittest

from quietturns import errors
from quietturns.errors import NetError
from support import any_values

NAMES = {
    'BadNet': ['value'], 'NoRouter': ['value'], 'BadLink': ['value'], 'BadLength': ['value'], 'TooMany': [],
    'NoLink': ['value'], 'Unlike': [], 'BadShift': ['value'], 'BadDemands': ['value'], 'BadMoment': ['value'],
    'Turning': ['destination'], 'BadRates': ['value'], 'BadCaps': ['value'], 'BadOffers': ['value'],
    'NoEnd': ['value'], 'BadRows': ['value'], 'BadEvent': ['value'], 'NotNow': ['event'],
    'Turned': ['packet', 'router'], 'Ring': ['ring'], 'NoPacket': ['value'], 'NothingToUndo': [],
    'BadText': ['value'], 'BadRun': ['value'], 'BadLine': ['value'],
}


class Errors(unittest.TestCase):

    def test_exactly_these_errors_are_defined(self):
        found = [name for name, value in vars(errors).items() if inspect.isclass(value)]
        self.assertEqual(sorted(found), sorted(['NetError', *NAMES]))

    def test_each_derives_directly_from_net_error(self):
        self.assertEqual(NetError.__bases__, (ValueError,))
        for name in NAMES:
            with self.subTest(name):
                self.assertEqual(getattr(errors, name).__bases__, (NetError,))

    def test_each_is_defined_in_errors(self):
        for name in ['NetError', *NAMES]:
            self.assertEqual(getattr(errors, name).__module__, 'quietturns.errors')

    def test_attributes_keep_any_values_passed_by_position(self):
        for name, attributes in NAMES.items():
            for value in any_values():
                with self.subTest(name, value=value):
                    passed = [[value, at] for at, _ in enumerate(attributes)]
                    error = getattr(errors, name)(*passed)
                    self.assertEqual(len(vars(error)), len(attributes))
                    for attribute, each in zip(attributes, passed):
                        self.assertIs(getattr(error, attribute), each)

    def test_attributes_keep_any_values_passed_by_name(self):
        for name, attributes in NAMES.items():
            for value in any_values():
                with self.subTest(name, value=value):
                    passed = {attribute: [value, attribute] for attribute in attributes}
                    error = getattr(errors, name)(**passed)
                    for attribute in attributes:
                        self.assertIs(getattr(error, attribute), passed[attribute])

    def test_a_value_itself_is_kept_not_a_copy(self):
        for value in any_values():
            self.assertIs(errors.BadNet(value).value, value)
            self.assertIs(errors.Turned(value, 'a').packet, value)
            self.assertIs(errors.Turned(0, value).router, value)

    def test_each_can_be_raised_and_caught_as_every_class_above_it(self):
        for name, attributes in NAMES.items():
            for above in (getattr(errors, name), NetError, ValueError):
                with self.subTest(name, above=above), self.assertRaises(above):
                    raise getattr(errors, name)(*attributes)


if __name__ == '__main__':
    unittest.main()
