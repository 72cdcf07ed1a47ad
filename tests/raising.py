"""What all tests of errors need."""

import unittest


class Raising(unittest.TestCase):
    def wrong(self, kind, fields, call, *values):
        """The call raises just this error with just these fields."""
        with self.assertRaises(kind) as caught:
            call(*values)
        self.assertIs(caught.exception.__class__, kind)
        kept = vars(caught.exception)
        self.assertEqual(kept, fields)
        for field, value in fields.items():
            self.assertIs(kept[field].__class__, value.__class__)
