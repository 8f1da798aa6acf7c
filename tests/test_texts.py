"""Promise 19: steps, trees and weights as texts; with promise 2, as far as it speaks of them."""

import itertools
import random
import re
import unittest

from roomtold.errors import BadArgument, BadSteps, BadText, BadTree
from roomtold.steps import Steps
from roomtold.texts import read_steps, read_tree, read_weights, steps_text, tree_text, weights_text
from roomtold.trees import Tree
from tests.checks import Case
from tests.odd import NO_OBJECTS
from tests.samples import PAGES, all_trees, some_steps, stale_tree
from tests.test_losses import NO_STEPS, NO_WEIGHTS

SIGNS = [" ", "\n", "\t", "\r", "\x0b", "\x00", "\xa0", "\u2028", "0", "1", "7", "9", "a", "T", "-", "+", "_", ".", ",",
         "\u00b2", "\u0663", "\u0967", "\uff11", "\u2460"]
READERS = (read_steps, read_tree, read_weights)
NUMBER = "[0-9]{1,4}"


def forms(kind, at):
    """The form of a line at its place, or None if it is one too many."""
    if kind == "steps":
        return f"steps( {NUMBER}){{2,}}" if at == 0 else None
    if kind == "tree":
        if at == 0:
            return f"tree {NUMBER}"
        return f"told( {NUMBER}){{{2 ** (at - 1)}}}" if at < 7 else None
    return "weights" if at == 0 else f"size {NUMBER} {NUMBER}"


def wrong_line(kind, text):
    """The number of the first line that is wrong, too many or missing; None if all have their forms."""
    lines = text.split("\n")
    for at, line in enumerate(lines):
        form = forms(kind, at)
        if form is None or re.fullmatch(form, line) is None:
            return at
    least = {"steps": 1, "tree": 3, "weights": 2}[kind]
    return len(lines) if len(lines) < least else None


def numbers(line):
    return [int(word) for word in line.split(" ")[1:]]


def cause(kind, text):
    """Whether the numbers of lines that have their forms make one at all: the error's class, or None."""
    rows = [numbers(line) for line in text.split("\n")]
    if kind == "steps":
        most, *bounds = rows[0]
        right = 1 <= most <= 1000 and 1 <= len(bounds) <= 8 and bounds == sorted(set(bounds))
        return None if right and bounds[0] >= 1 and bounds[-1] <= most else BadSteps
    if kind == "tree":
        told = sum(rows[1:], [])
        return None if 1 <= rows[0][0] <= 8 and max(told) <= rows[0][0] else BadTree
    weights = dict(map(tuple, rows[1:]))
    right = len(weights) <= 30 and all(1 <= size <= 1000 and weight <= 1000 for size, weight in weights.items())
    return None if right else BadArgument


def made(kind, text):
    rows = [numbers(line) for line in text.split("\n")]
    if kind == "steps":
        return Steps(rows[0][0], rows[0][1:])
    if kind == "tree":
        return Tree(rows[0][0], sum(rows[1:], []))
    return dict(map(tuple, rows[1:]))


WRITE = {"steps": steps_text, "tree": tree_text, "weights": weights_text}
READ = {"steps": read_steps, "tree": read_tree, "weights": read_weights}


class Reading(Case):
    def bad(self, reader, line, why, text):
        """The text is told to be bad in this line, with a cause of this class, if any."""
        with self.assertRaises(BadText) as caught:
            reader(text)
        error = caught.exception
        self.assertIs(error.__class__, BadText)
        self.assertEqual(error.line, line, repr(text))
        self.assertIs(error.line.__class__, line.__class__)
        self.assertIs(error.__cause__.__class__, why or None.__class__, repr(text))
        return error

    def read(self, kind, text):
        """The text is read, or refused, as the document says."""
        line = wrong_line(kind, text)
        if line is not None:
            self.bad(READ[kind], line, None, text)
        elif cause(kind, text) is not None:
            self.bad(READ[kind], None, cause(kind, text), text)
        elif WRITE[kind](made(kind, text)) != text:
            self.bad(READ[kind], None, None, text)
        else:
            self.assertEqual(READ[kind](text), made(kind, text))


class Written(Case):
    def test_by_hand(self):
        self.assertEqual(steps_text(Steps(12, [3, 6, 10])), "steps 12 3 6 10")
        self.assertEqual(steps_text(steps=Steps(1, [1])), "steps 1 1")
        self.assertEqual(tree_text(Tree(3, [2, 2, 1, 2, 1, 1, 0])), "tree 3\ntold 2\ntold 2 1\ntold 2 1 1 0")
        self.assertEqual(tree_text(tree=Tree(1, (0, 0, 1))), "tree 1\ntold 0\ntold 0 1")
        self.assertEqual(weights_text({7: 1000, 1: 0, 1000: 5}), "weights\nsize 1 0\nsize 7 1000\nsize 1000 5")
        self.assertEqual(weights_text(weights={1000: 1000}), "weights\nsize 1000 1000")

    def test_wrong(self):
        self.wrong(steps_text, ("steps", Steps(1, [1]), BadArgument, "value", NO_STEPS))
        self.wrong(tree_text, ("tree", Tree(1, [0] * 3), BadArgument, "value", NO_OBJECTS + [Steps(3, [1]), Tree]))
        self.wrong(weights_text, ("weights", {1: 1}, BadArgument, "value", NO_WEIGHTS))

    def test_nothing_given_is_changed(self):
        weights = {7: 1, 1: 2}
        self.assertEqual(weights_text(weights), weights_text(weights))
        self.assertEqual(list(weights), [7, 1])


class Back(Case):
    def test_steps(self):
        chance = random.Random(191)
        for classes, most in itertools.product(range(1, 9), (8, 9, 10, 99, 100, 999, 1000)):
            steps = some_steps(chance, classes, most)
            text = steps_text(steps)
            self.assertEqual(text, " ".join(map(str, ["steps", most, *steps.bounds])))
            self.assertEqual(read_steps(text), steps)
        self.assertEqual(read_steps(text="steps 1000 1 1000").__class__, Steps)

    def test_trees(self):
        chance = random.Random(192)
        for tree in itertools.chain(all_trees(2, 2), all_trees(1, 4)):
            self.assertEqual(read_tree(tree_text(tree)), tree)
        for classes, pages in itertools.product(range(1, 9), PAGES):
            tree = stale_tree(chance, classes, pages)
            text = tree_text(tree)
            self.assertEqual([len(line.split(" ")) - 1 for line in text.split("\n")[1:]],
                             [1, 2, 4, 8, 16, 32][:pages.bit_length()])
            self.assertEqual(sum([numbers(line) for line in text.split("\n")[1:]], []), tree.told)
            self.assertEqual(read_tree(text=text), tree)

    def test_weights(self):
        chance = random.Random(193)
        for many in range(1, 31):
            sizes = chance.sample(range(1, 1001), many)
            weights = {size: chance.choice([0, 1, 10, 999, 1000]) for size in sizes}
            read = read_weights(text=weights_text(weights))
            self.assertEqual((read, list(read), read.__class__), (weights, sorted(weights), dict))
            read.clear()
            self.assertEqual(read_weights(weights_text(weights)), weights)


class Bent(Reading):
    TEXTS = [
        ("steps", "steps 12 3 6 10"), ("steps", "steps 1 1"), ("steps", "steps 1000 1 10 100 250 500 750 999 1000"),
        ("tree", "tree 3\ntold 2\ntold 2 1\ntold 2 1 1 0"), ("tree", "tree 1\ntold 0\ntold 0 1"),
        ("weights", "weights\nsize 1 0\nsize 7 1000\nsize 1000 5"), ("weights", "weights\nsize 10 1"),
    ]

    def test_one_sign_at_each_place(self):
        for kind, text in self.TEXTS:
            self.read(kind, text)
            for at in range(len(text) + 1):
                self.read(kind, text[:at] + text[at + 1:])
                self.read(kind, text[:at])
                self.read(kind, text[:at] + text[at:at + 1] * 2 + text[at + 1:])
                for sign in SIGNS:
                    self.read(kind, text[:at] + sign + text[at:])
                    self.read(kind, text[:at] + sign + text[at + 1:])

    def test_one_line_at_each_place(self):
        greatest = tree_text(Tree(8, [at % 9 for at in range(63)]))
        thirty = weights_text({size: size % 7 for size in range(1, 31)})
        for kind, text in self.TEXTS + [("tree", greatest), ("weights", thirty)]:
            lines = text.split("\n")
            others = sorted({line for _, other in self.TEXTS for line in other.split("\n")} | {"", " ", "told", "size 1"})
            for at in range(len(lines) + 1):
                self.read(kind, "\n".join(lines[:at] + lines[at + 1:]))
                self.read(kind, "\n".join(lines[:at] + lines[at:at + 1] * 2 + lines[at + 1:]))
                for other in others:
                    self.read(kind, "\n".join(lines[:at] + [other] + lines[at:]))
                    self.read(kind, "\n".join(lines[:at] + [other] + lines[at + 1:]))

    def test_texts_of_the_other_kinds(self):
        for reader, (kind, text) in itertools.product(READ, self.TEXTS):
            if reader != kind:
                self.bad(READ[reader], 0, None, text)


class Refused(Reading):
    def test_steps_that_are_none(self):
        for text in ("steps 0 1", "steps 1001 1", "steps 12 13", "steps 12 0", "steps 12 3 3", "steps 12 6 3",
                     "steps 9999 9999", "steps 12 1 2 3 4 5 6 7 8 9", "steps 12" + " 1" * 500, "steps 03 4"):
            error = self.bad(read_steps, None, BadSteps, text)
            self.assertIn(error.__cause__.part, ("most", "bounds"))
        self.assertEqual(self.bad(read_steps, None, BadSteps, "steps 0 0").__cause__.part, "most")
        self.assertEqual(self.bad(read_steps, None, BadSteps, "steps 3 0").__cause__.part, "bounds")

    def test_trees_that_are_none(self):
        for text in ("tree 0\ntold 0\ntold 0 0", "tree 9\ntold 0\ntold 0 0", "tree 1\ntold 0\ntold 0 2",
                     "tree 9999\ntold 9999\ntold 0 0"):
            self.bad(read_tree, None, BadTree, text)

    def test_weights_that_are_none(self):
        for text in ("weights\nsize 0 1", "weights\nsize 1001 1", "weights\nsize 1 1001", "weights\nsize 1 1\nsize 0 1",
                     "weights" + "".join(f"\nsize {size} 1" for size in range(1, 32))):
            self.bad(read_weights, None, BadArgument, text)

    def test_not_just_this_text(self):
        for text in ("steps 012 3", "steps 12 03", "steps 0012 0003 0006"):
            self.bad(read_steps, None, None, text)
        for text in ("tree 01\ntold 0\ntold 0 1", "tree 1\ntold 00\ntold 0 1", "tree 1\ntold 0\ntold 0 0001"):
            self.bad(read_tree, None, None, text)
        for text in ("weights\nsize 01 1", "weights\nsize 1 01", "weights\nsize 1 00", "weights\nsize 2 1\nsize 1 1",
                     "weights\nsize 1 1\nsize 1 1", "weights\nsize 1 1\nsize 1 2",
                     "weights" + "\nsize 5 1" * 40):
            self.bad(read_weights, None, None, text)

    def test_five_figures_and_too_few_or_too_many_numbers(self):
        for text in ("steps 12 00003", "steps 10000 3", "steps 12", "steps", "", "steps 12 -3", "Steps 12 3", "steps  12 3"):
            self.bad(read_steps, 0, None, text)
        for text in ("tree", "tree 1 1\ntold 0\ntold 0 1", "tree 00001\ntold 0\ntold 0 0", ""):
            self.bad(read_tree, 0, None, text)
        self.bad(read_tree, 1, None, "tree 1\ntold 0 0\ntold 0 1")
        self.bad(read_tree, 2, None, "tree 1\ntold 0\ntold 0")
        self.bad(read_tree, 2, None, "tree 1\ntold 0\ntold 0 1 0")
        for text in ("", "weights 1", "weights ", "weight"):
            self.bad(read_weights, 0, None, text)
        for text in ("weights\nsize 1", "weights\nsize 1 1 1", "weights\nsize", "weights\n", "weights\nsize 10000 1"):
            self.bad(read_weights, 1, None, text)

    def test_lines_too_many_and_too_few(self):
        for text, line in (("steps 12 3\n", 1), ("steps 12 3\nsteps 12 3", 1), ("steps 0 0\n", 1), ("steps\n", 0)):
            self.bad(read_steps, line, None, text)
        for text, line in (("tree 1", 1), ("tree 1\n", 1), ("tree 1\ntold 0", 2), ("tree 1\ntold 0\n", 2), ("tree 0", 1),
                           ("tree 1\ntold 0\ntold 0 0\n", 3), ("tree 1\ntold 0\ntold 0 0\ntold 0 0 0", 3)):
            self.bad(read_tree, line, None, text)
        greatest = tree_text(Tree.flat(8, 32, 8))
        for more in ("\n", "\ntold 1", "\ntold" + " 0" * 64, "\n\n"):
            self.bad(read_tree, 7, None, greatest + more)
        for text, line in (("weights", 1), ("weights\n", 1), ("weights\nsize 1 1\n", 2), ("weights\nsize 0 0\n\n", 2)):
            self.bad(read_weights, line, None, text)

    def test_the_first_wrong_line_is_told(self):
        self.bad(read_tree, 1, None, "tree 0\ntold\ntold\ntold")
        self.bad(read_tree, 0, None, "tree\ntold\ntold")
        self.bad(read_weights, 2, None, "weights\nsize 0 0\nsize\nsize")
        # Ahead of what is wrong with the whole.
        self.bad(read_weights, 2, None, "weights\nsize 9999 9999\nsize 1")

    def test_values_that_are_no_text(self):
        for reader in READERS:
            for value in [value for value in NO_OBJECTS if not isinstance(value, str)] + [b"steps 12 3", ["steps 12 3"],
                                                                                         Steps(12, [3])]:
                self.bad(reader, 0, None, value)


if __name__ == "__main__":
    unittest.main()
