"""Texts: steps, trees and weights written down, and read again."""

from roomtold.errors import BadArgument, BadSteps, BadText, BadTree
from roomtold.losses import check_weights
from roomtold.steps import Steps, check_steps
from roomtold.trees import NODES, Tree, check_tree

MOST_FIGURES = 4


def _row(word, numbers):
    """A line: a word, and numbers behind it."""
    return " ".join([word] + [str(number) for number in numbers])


def steps_text(steps):
    """Steps as a text."""
    check_steps(steps)
    return _row("steps", [steps.most] + steps.bounds)


def tree_text(tree):
    """A tree as a text."""
    check_tree(tree)
    told = tree.told
    rows = [_row("tree", [tree.classes])]
    first = 1
    # The nodes of a level are as many as the number of its first one.
    while first <= len(told):
        rows.append(_row("told", told[first - 1:2 * first - 1]))
        first = 2 * first
    return "\n".join(rows)


def weights_text(weights):
    """Weights as a text."""
    check_weights(weights)
    return "\n".join(["weights"] + [_row("size", [size, weights[size]]) for size in sorted(weights)])


def is_figures(word):
    """Whether a text is one to four figures."""
    # Without the first test figures of other scripts would pass.
    return word.isascii() and word.isdigit() and len(word) <= MOST_FIGURES


def _lines(text):
    """The lines of any value; raises for what is no text."""
    if not isinstance(text, str):
        raise BadText(0)
    return text.split("\n")


def _numbers(lines, at, word):
    """The numbers of a line; raises if it is not the word with numbers behind it."""
    words = lines[at].split(" ")
    if words[0] != word or not all([is_figures(figures) for figures in words[1:]]):
        raise BadText(at)
    return [int(figures) for figures in words[1:]]


def _just(lines, at, word, many):
    """The numbers of a line; raises if they are not so many."""
    numbers = _numbers(lines, at, word)
    if len(numbers) != many:
        raise BadText(at)
    return numbers


def read_steps(text):
    """The steps that a text tells."""
    lines = _lines(text)
    numbers = _numbers(lines, 0, "steps")
    if len(numbers) < 2:
        raise BadText(0)
    if len(lines) > 1:
        raise BadText(1)
    try:
        steps = Steps(numbers[0], numbers[1:])
    except BadSteps as error:
        raise BadText(None) from error
    if steps_text(steps) != text:
        raise BadText(None)
    return steps


def _read_told(lines):
    """The told classes of a tree's lines; raises for the first one that is wrong, missing or too many."""
    told = []
    for at in range(1, len(lines)):
        if len(told) == NODES[-1]:
            raise BadText(at)
        # Each level has one node more than all above it.
        row = _just(lines, at, "told", len(told) + 1)
        told.extend(row)
    if len(told) < NODES[0]:
        raise BadText(len(lines))
    return told


def read_tree(text):
    """The tree that a text tells."""
    lines = _lines(text)
    numbers = _just(lines, 0, "tree", 1)
    told = _read_told(lines)
    try:
        tree = Tree(numbers[0], told)
    except BadTree as error:
        raise BadText(None) from error
    if tree_text(tree) != text:
        raise BadText(None)
    return tree


def read_weights(text):
    """The weights that a text tells."""
    lines = _lines(text)
    _just(lines, 0, "weights", 0)
    weights = {}
    for at in range(1, len(lines)):
        size, weight = _just(lines, at, "size", 2)
        weights[size] = weight
    if not weights:
        raise BadText(1)
    try:
        again = weights_text(weights)
    except BadArgument as error:
        raise BadText(None) from error
    if again != text:
        raise BadText(None)
    return weights
