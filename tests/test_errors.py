"""The error classes: what they are under, their words and their fields."""

import unittest

from whofirst import errors

UNDER_HAND_ERROR = (
    "BadTable", "BadText", "BadChoice", "BadOrder", "BadMany", "BadScheme", "BadWishes", "BadTurn", "Full",
    "TooWide", "NoScheme", "Ended", "Still", "Busy", "Idle", "Undone",
)
UNDER_MISSING = ("NoStand", "NoOperation", "NoHand")
FIELDS = {
    "BadTable": ("at",), "BadText": ("at",), "BadScheme": ("hand", "row"), "TooWide": ("most",),
    "NoScheme": ("level",), "Undone": ("at",),
}
ALL = ("HandError", "Missing", "NothingLeft") + UNDER_HAND_ERROR + UNDER_MISSING


def made(word):
    fields = FIELDS.get(word, ())
    return getattr(errors, word)(*range(3, 3 + len(fields)))


class Bases(unittest.TestCase):
    def test_topmost(self):
        self.assertEqual(errors.HandError.__bases__, (ValueError,))
        self.assertEqual(errors.Missing.__bases__, (LookupError,))
        self.assertEqual(errors.NothingLeft.__bases__, (IndexError,))

    def test_none_is_under_another(self):
        for word in UNDER_HAND_ERROR:
            self.assertEqual(getattr(errors, word).__bases__, (errors.HandError,), word)
        for word in UNDER_MISSING:
            self.assertEqual(getattr(errors, word).__bases__, (errors.Missing,), word)

    def test_no_other_error_is_there(self):
        found = [name for name, what in vars(errors).items() if isinstance(what, type)]
        self.assertEqual(sorted(found), sorted(ALL))


class Fields(unittest.TestCase):
    def test_word(self):
        for word in ALL:
            self.assertEqual(made(word).word, word)

    def test_own_fields(self):
        for word, fields in FIELDS.items():
            told = [getattr(made(word), field) for field in fields]
            self.assertEqual(told, list(range(3, 3 + len(fields))), word)

    def test_each_has_a_message(self):
        for word in ALL:
            self.assertIn(word, str(made(word)))


if __name__ == "__main__":
    unittest.main()
