"""What the tests of several modules ask in the same way."""

import unittest


class Case(unittest.TestCase):
    """A test case that also looks into the field of the error that is raised."""

    def raises(self, kind, field, told, call, /, *given, **named):
        """The call raises just this error, whose field is the very value told."""
        with self.assertRaises(kind) as caught:
            call(*given, **named)
        self.assertIs(caught.exception.__class__, kind)
        value = getattr(caught.exception, field)
        if isinstance(told, (str, int)):
            self.assertEqual(value, told)
            self.assertIs(value.__class__, told.__class__)
        else:
            self.assertIs(value, told)

    def wrong(self, call, *arguments):
        """Each wrong value is told, by itself and with a wrong argument behind it.

        For each argument, in the interface's order, a tuple: the name, a right value, the error, its field, the wrong
        values, and what the field is told if it is not the value itself.
        """
        for at, (name, _, kind, field, values, *told) in enumerate(arguments):
            for value in values:
                for later in arguments[at:]:
                    named = {other[0]: other[1] for other in arguments}
                    if later[0] != name:
                        named[later[0]] = later[4][0]
                    named[name] = value
                    self.raises(kind, field, told[0] if told else value, call, **named)

    def says_false(self, value):
        """The value is False itself, and not only as good as False."""
        self.assertIs(value, False)

    def says_true(self, value):
        self.assertIs(value, True)


def firsts(generator):
    """A function that asks a generator for its first value."""
    return lambda *given, **named: next(generator(*given, **named))
