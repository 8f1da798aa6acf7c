"""What the tests of several modules ask in the same way."""

import unittest


class Case(unittest.TestCase):
    """A test case that also looks into the field of the error that is raised."""

    def raises(self, kind, field, told, call, /, *given, **named):
        """The call raises just this error, whose field is the very value told."""
        with self.assertRaises(kind) as caught:
            call(*given, **named)
        self.assertIs(caught.exception.__class__, kind)
        value = getattr(caught.exception, field)
        if isinstance(told, (str, int)):
            self.assertEqual(value, told)
            self.assertIs(value.__class__, told.__class__)
        else:
            self.assertIs(value, told)

    def says_false(self, value):
        """The value is False itself, and not only as good as False."""
        self.assertIs(value, False)

    def says_true(self, value):
        self.assertIs(value, True)
