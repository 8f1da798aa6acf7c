"""Odd values for the places where the document says "any value"."""


class EqualToAll:
    """Equal to whatever it is compared with, as a value that deceives `in` and `==`."""

    def __eq__(self, other):
        return True


class Falling:
    """Not to be compared or measured at all."""

    def __eq__(self, other):
        raise RuntimeError("compared")

    def __len__(self):
        raise RuntimeError("measured")

    def __bool__(self):
        raise RuntimeError("tested")


# Of no integer kind: none of them stands for an integer, whatever it is equal to.
NO_INTEGERS = [
    True, False, None, 1.0, 2.0, 0.0, float("nan"), 1 + 0j, "1", "", b"1", [], [1], (), (1,), {}, {1: 1}, set(), {1},
    range(2), slice(1, 2), int, len, object(), EqualToAll(), Falling(),
]

# Of neither list nor tuple kind, though some can be gone over.
NO_ROWS = [
    True, False, None, 3, 1.5, "123", b"\x01\x02\x03", {1: 1, 2: 2, 3: 3}, {1, 2, 3}, range(1, 4), iter([1, 2, 3]),
    object(), EqualToAll(), Falling(),
]

# No True and no False, though some are as good as that in a test.
NO_ANSWERS = [0, 1, -1, "True", "above"] + [value for value in NO_INTEGERS if not isinstance(value, bool)]

# No word, though some are equal to one.
NO_WORDS = ["", " ", "Above", "abovebelow", "in  order", "In order", "Raise", b"raise"] + NO_INTEGERS

# No object of a class of the program.
NO_OBJECTS = [0, 3, "tree", (1, [0, 0, 0])] + NO_INTEGERS + NO_ROWS
