"""What several tests ask of errors."""

import unittest

FIELDS = ("value", "index", "limit")


class RaisingCase(unittest.TestCase):
    def assert_raised(self, kind, field, call, /, *passed, **named):
        """The call raises an error of just this class, whose field is this very value."""
        with self.assertRaises(kind) as caught:
            call(*passed, **named)
        self.assertIs(type(caught.exception), kind)
        held = [vars(caught.exception)[name] for name in FIELDS if name in vars(caught.exception)]
        self.assertEqual(len(held), 1)
        if isinstance(field, (int, tuple)) and not isinstance(field, bool):
            self.assertEqual((type(held[0]), held[0]), (type(field), field))
        else:
            self.assertIs(held[0], field)

    def assert_bare(self, kind, call, /, *passed, **named):
        """The call raises an error of just this class, which has no field."""
        with self.assertRaises(kind) as caught:
            call(*passed, **named)
        self.assertIs(type(caught.exception), kind)
        self.assertEqual(vars(caught.exception), {})
