"""Trees: the told classes of pages, and of groups of pages."""

from roomtold.errors import BadArgument, BadClass, BadNode, BadPage, BadRooms, BadTree
from roomtold.steps import Steps, are_integers, check_steps, is_integer

MOST_CLASSES = 8
PAGES = (2, 4, 8, 16, 32)
NODES = (3, 7, 15, 31, 63)


def is_page_count(value):
    """Whether any value is a number of pages that a tree can have."""
    # Without the first test 2.0 would pass for 2.
    return is_integer(value, PAGES[0], PAGES[-1]) and value in PAGES


def are_told(value, classes):
    """Whether any value can be the told classes of a tree with so many classes."""
    return are_integers(value, 0, classes) and len(value) in NODES


def are_rooms(value, most):
    """Whether any value can be the rooms of a tree, with this greatest room."""
    return are_integers(value, 0, most) and len(value) in PAGES


class Tree:
    """A told class, maybe a stale one, for each node over some pages."""

    def __init__(self, classes, told):
        if not is_integer(classes, 1, MOST_CLASSES):
            raise BadTree("classes")
        if not are_told(told, classes):
            raise BadTree("told")
        self.classes = classes
        # Node i, counted from 1, stands at the place i - 1.
        self._told = tuple(told)

    @staticmethod
    def flat(classes, pages, told):
        """The tree with so many pages, all of whose nodes are told the same."""
        if not is_integer(classes, 1, MOST_CLASSES):
            raise BadTree("classes")
        if not is_page_count(pages):
            raise BadPage(pages)
        if not is_integer(told, 0, classes):
            raise BadClass(told)
        return Tree(classes, [told] * (2 * pages - 1))

    @staticmethod
    def exact(steps, rooms):
        """The tree that tells just the classes of the rooms."""
        check_steps(steps)
        if not are_rooms(rooms, steps.most):
            raise BadRooms(rooms)
        leaves = [steps.class_of(room) for room in rooms]
        inner = [0] * (len(leaves) - 1)
        return Tree(len(steps), inner + leaves).mended()

    @property
    def told(self):
        """The told classes of the nodes, as a list of the caller's own."""
        return list(self._told)

    @property
    def is_upright(self):
        """Whether no node is told more than its parent."""
        for node in range(2, len(self._told) + 1):
            if self[node] > self[node // 2]:
                return False
        return True

    def __len__(self):
        # The leaves, one for each page, are the last nodes, one more than the inner ones.
        return len(self._told[len(self._told) // 2:])

    def __getitem__(self, node):
        if not is_integer(node, 1, len(self._told)):
            raise BadNode(node)
        return self._told[node - 1]

    def __iter__(self):
        # Without this Python would go over the tree by its nodes from 0 on.
        raise TypeError("a tree is not iterated over")

    def leaf(self, page):
        """The leaf of a page."""
        if not is_integer(page, 0, len(self) - 1):
            raise BadPage(page)
        return page + len(self)

    def way(self, page):
        """The nodes from the root to the leaf of a page."""
        node = self.leaf(page)
        upward = [node]
        while node > 1:
            node = node // 2
            upward.append(node)
        return upward[::-1]

    def greater(self, node):
        """The greater told class of the children of an inner node."""
        if not is_integer(node, 1, len(self) - 1):
            raise BadNode(node)
        return max(self[2 * node], self[2 * node + 1])

    def _misses(self, page):
        least = min([self[node] for node in self.way(page)])
        return self[self.leaf(page)] > least

    def missed(self):
        """The pages whose leaf is told more than some node of their way."""
        return [page for page in range(len(self)) if self._misses(page)]

    def mended(self):
        """The tree behind mending: each inner node is told its greater."""
        told = list(self._told)
        for node in range(len(self) - 1, 0, -1):
            told[node - 1] = max(told[2 * node - 1], told[2 * node])
        return Tree(self.classes, told)

    def with_told(self, node, told):
        """The tree with another told class of one node."""
        if not is_integer(node, 1, len(self._told)):
            raise BadNode(node)
        if not is_integer(told, 0, self.classes):
            raise BadClass(told)
        row = list(self._told)
        row[node - 1] = told
        return Tree(self.classes, row)

    def __eq__(self, other):
        return isinstance(other, Tree) and self.classes == other.classes and self._told == other._told


def check_tree(tree):
    """Raises for what is no tree."""
    if not isinstance(tree, Tree):
        raise BadArgument(tree)


def check_rooms(tree, steps, rooms):
    """Raises for what is no tree, no steps with as many bounds as it has classes, or no rooms of both."""
    check_tree(tree)
    if not isinstance(steps, Steps) or len(steps) != tree.classes:
        raise BadArgument(steps)
    if not are_rooms(rooms, steps.most) or len(rooms) != len(tree):
        raise BadRooms(rooms)
