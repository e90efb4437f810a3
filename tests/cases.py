"""What the tests of errors share."""

import unittest


class Case(unittest.TestCase):

    def told(self, error, field, value, call, *arguments, **named):
        """The call raises this error with this value."""
        with self.assertRaises(error) as caught:
            call(*arguments, **named)
        self.assertIs(type(caught.exception), error)
        found = getattr(caught.exception, field)
        self.assertEqual((found, type(found)), (value, type(value)))
