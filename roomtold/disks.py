"""Disks: what a crash can leave of the writes since the last flush."""

from roomtold.errors import BadArgument
from roomtold.trees import Tree, check_tree
from roomtold.writes import stages, written

ORDERS = ("anyhow", "in order")


def is_order(value):
    """Whether any value is the name of an order."""
    return isinstance(value, str) and value in ORDERS


def _check_order(order):
    if not is_order(order):
        raise BadArgument(order)


def _next_told(choices, told):
    """The told classes that come next, each out of its node's choices, or None behind the last."""
    for at in reversed(range(len(told))):
        classes = choices[at]
        if told[at] < classes[-1]:
            greater = classes[classes.index(told[at]) + 1]
            return told[:at] + [greater] + [others[0] for others in choices[at + 1:]]
    return None


class Disk:
    """The tree as it is written now, the one as of the last flush, and the writes since."""

    def __init__(self, tree):
        check_tree(tree)
        self._now = tree
        self._flushed = tree
        self._pending = ()

    @property
    def now(self):
        """The tree as it is written now."""
        return self._now

    @property
    def flushed(self):
        """The tree as of the last flush."""
        return self._flushed

    @property
    def pending(self):
        """The row of writes since the last flush, as a list of the caller's own."""
        return list(self._pending)

    def with_row(self, row):
        """The disk behind a row of writes."""
        disk = Disk(self._flushed)
        disk._now = written(self._now, row)
        disk._pending = self._pending + tuple(row)
        return disk

    def with_flush(self):
        """The disk behind a flush."""
        return Disk(self._now)

    def __eq__(self, other):
        if not isinstance(other, Disk):
            return False
        return self._now == other._now and self._flushed == other._flushed and self._pending == other._pending

    def _choices(self):
        """For each node, in their order, the classes that it can be told, anyhow."""
        choices = [[told] for told in self._flushed.told]
        for node, told in self._pending:
            if told not in choices[node - 1]:
                choices[node - 1].append(told)
        return [sorted(classes) for classes in choices]

    def can_tell(self, node):
        """The classes that a node can be told, anyhow."""
        # The tree tells apart what is no node of it.
        told = [self._flushed[node]]
        return sorted(set(told + [other for at, other in self._pending if at == node]))

    def _in_order(self):
        """The unlike trees behind the first writes, by the least number of writes."""
        seen = {}
        for tree in stages(self._flushed, list(self._pending)):
            seen.setdefault(tuple(tree.told), tree)
        return list(seen.values())

    def trees(self, order):
        """All trees that the disk can have, each once."""
        _check_order(order)
        if order == "in order":
            yield from self._in_order()
            return
        choices = self._choices()
        told = [classes[0] for classes in choices]
        while told is not None:
            yield Tree(self._now.classes, told)
            told = _next_told(choices, told)

    def count(self, order):
        """How many unlike trees the disk can have."""
        _check_order(order)
        if order == "in order":
            return len(self._in_order())
        # Multiplied, as the trees themselves can be far too many to be gone through.
        many = 1
        for classes in self._choices():
            many = many * len(classes)
        return many

    def can_have(self, value, order):
        """Whether any value is a tree that the disk can have."""
        _check_order(order)
        if not isinstance(value, Tree) or value.classes != self._now.classes or len(value) != len(self._now):
            return False
        if order == "in order":
            return value in self._in_order()
        return all([told in classes for told, classes in zip(value.told, self._choices())])

    def missable(self, order):
        """The pages that the disk can miss."""
        _check_order(order)
        if order == "in order":
            return sorted(set([page for tree in self._in_order() for page in tree.missed()]))
        choices = self._choices()
        pages = []
        for page in range(len(self._now)):
            way = self._now.way(page)
            least = min([choices[node - 1][0] for node in way[:-1]])
            if choices[way[-1] - 1][-1] > least:
                pages.append(page)
        return pages

    def missing(self, order):
        """A tree that the disk can have and that misses a page, or None."""
        _check_order(order)
        if order == "in order":
            for tree in self._in_order():
                if tree.missed():
                    return tree
            return None
        pages = self.missable(order)
        if not pages:
            return None
        # Such a page is missed if its leaf is told the greatest that it can be, and all else the least.
        choices = self._choices()
        leaf = self._now.leaf(pages[0])
        told = [classes[0] for classes in choices]
        told[leaf - 1] = choices[leaf - 1][-1]
        return Tree(self._now.classes, told)
