"""What several tests check in the same way."""

import unittest


class Checks(unittest.TestCase):
    def refused(self, error, call, *given, **named):
        """The call is refused with this very error, and its word; told back for its fields."""
        with self.assertRaises(error) as caught:
            call(*given, **named)
        self.assertIs(type(caught.exception), error)
        self.assertEqual(caught.exception.word, error.__name__)
        return caught.exception

    def refused_at(self, at, error, call, *given):
        """Likewise, with the field `at`."""
        self.assertEqual(self.refused(error, call, *given).at, at)

    def same(self, told, due):
        """Equal, and of the same kinds throughout: a tuple is no list, True is no number."""
        self.assertEqual(repr(told), repr(due))
