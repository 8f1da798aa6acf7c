"""Writes: nodes are told other classes, one behind the other."""

from roomtold.errors import BadArgument, BadClass
from roomtold.steps import is_integer
from roomtold.trees import Tree, check_tree


def is_answer(value):
    """Whether any value is True or False."""
    return value is True or value is False


def is_write(tree, value):
    """Whether any value is a tuple of a node and a class of a tree."""
    if not isinstance(value, tuple) or len(value) != 2:
        return False
    node, told = value
    return is_integer(node, 1, 2 * len(tree) - 1) and is_integer(told, 0, tree.classes)


def check_row(tree, row):
    """Raises for what is no tree, or no row of writes of it."""
    check_tree(tree)
    if not isinstance(row, list):
        raise BadArgument(row)
    for write in row:
        if not is_write(tree, write):
            raise BadArgument(row)


def raising(tree, page, told, *, above=True):
    """The row of writes that raises a page to a class."""
    check_tree(tree)
    way = tree.way(page)
    if not is_integer(told, 0, tree.classes):
        raise BadClass(told)
    if not is_answer(above):
        raise BadArgument(above)
    row = [(node, told) for node in way if tree[node] < told]
    return row if above else row[::-1]


def _upward(tree, node, told):
    """The writes of a lowering from its node up to the root."""
    row = [(node, told)]
    lower = tree.with_told(node, told)
    while node > 1:
        node = node // 2
        greater = lower.greater(node)
        if lower[node] > greater:
            row.append((node, greater))
            lower = lower.with_told(node, greater)
    return row


def lowering(tree, node, told, *, above=False):
    """The row of writes that lowers a node to a class, and puts right the nodes above it."""
    check_tree(tree)
    before = tree[node]
    if not is_integer(told, 0, tree.classes):
        raise BadClass(told)
    if not is_answer(above):
        raise BadArgument(above)
    if told >= before:
        return []
    row = _upward(tree, node, told)
    return row[::-1] if above else row


def written(tree, row):
    """The tree behind a row of writes."""
    check_row(tree, row)
    told = tree.told
    for node, other in row:
        told[node - 1] = other
    return Tree(tree.classes, told)


def stages(tree, row):
    """The trees behind none of the writes, the first, the first two, and so on."""
    check_row(tree, row)
    # The caller may change the row between two trees.
    writes = list(row)
    told = tree.told
    yield tree
    for node, other in writes:
        told[node - 1] = other
        yield Tree(tree.classes, told)
