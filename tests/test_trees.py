"""Promises 4 and 5: trees, whom they miss, mended and exact ones; with promise 2, as far as it speaks of them."""

import itertools
import unittest

from roomtold.errors import BadArgument, BadClass, BadNode, BadPage, BadRooms, BadTree
from roomtold.steps import Steps
from roomtold.trees import Tree
from tests.checks import Case
from tests.odd import NO_INTEGERS, NO_ROWS, EqualToAll, Falling
from tests.samples import PAGES, STALE, counted, small_trees


class Making(Case):
    def test_parts_as_given(self):
        tree = Tree(3, STALE)
        self.assertEqual((tree.classes, tree.told), (3, STALE))
        self.assertIn("classes", vars(tree))

    def test_by_name(self):
        self.assertEqual(Tree(told=[1, 0, 1], classes=2), Tree(2, [1, 0, 1]))

    def test_tuple_and_list_alike(self):
        self.assertEqual(Tree(3, tuple(STALE)).told, STALE)
        self.assertEqual(Tree(3, tuple(STALE)), Tree(3, STALE))

    def test_every_number_of_pages_and_of_classes(self):
        for pages, classes in itertools.product(PAGES, range(1, 9)):
            tree = Tree(classes, [classes] * (2 * pages - 1))
            self.assertEqual((len(tree), tree.classes, tree.told), (pages, classes, [classes] * (2 * pages - 1)))

    def test_wrong_classes(self):
        for classes in [0, -1, 9, 10 ** 100, -10 ** 100] + NO_INTEGERS:
            self.raises(BadTree, "part", "classes", Tree, classes, [0, 0, 0])

    def test_told_of_a_length_that_no_tree_has(self):
        for many in range(140):
            if many not in [2 * pages - 1 for pages in PAGES]:
                self.raises(BadTree, "part", "told", Tree, 1, [0] * many)
                self.raises(BadTree, "part", "told", Tree, 1, (0,) * many)

    def test_wrong_told(self):
        for told in [-1, 4, 9, 10 ** 100] + NO_INTEGERS:
            for at in range(3):
                row = [1, 1, 1]
                row[at] = told
                self.raises(BadTree, "part", "told", Tree, 3, row)
                self.raises(BadTree, "part", "told", Tree, 3, tuple(row))
        for told in NO_ROWS:
            self.raises(BadTree, "part", "told", Tree, 3, told)
        self.raises(BadTree, "part", "told", Tree, 1, [1, 1, 2])
        self.raises(BadTree, "part", "told", Tree, 8, [9, 9, 9])

    def test_classes_are_told_before_told(self):
        for classes, told in itertools.product([0, 9, True, None], [[], [0, 0], [9, 9, 9], None, [True, 0, 0]]):
            self.raises(BadTree, "part", "classes", Tree, classes, told)
            self.raises(BadTree, "part", "classes", Tree, told=told, classes=classes)

    def test_given_list_is_neither_kept_nor_changed(self):
        given = list(STALE)
        tree = Tree(3, given)
        tree.mended()
        tree.with_told(1, 3)
        self.assertEqual(given, STALE)
        given[0] = 0
        given.append(1)
        self.assertEqual(tree.told, STALE)

    def test_told_list_belongs_to_the_caller(self):
        tree = Tree(3, STALE)
        tree.told.append(1)
        tree.told[0] = 0
        self.assertIs(tree.told.__class__, list)
        self.assertEqual((tree.told, tree[1], len(tree)), (STALE, 2, 4))

    def test_told_and_is_upright_are_properties(self):
        tree = Tree(3, STALE)
        for name in ("told", "is_upright"):
            with self.assertRaises(AttributeError):
                setattr(tree, name, 1)


class Nodes(Case):
    def test_len_is_how_many_pages(self):
        for pages in PAGES:
            self.assertEqual(len(counted(pages)), pages)

    def test_told_class_of_each_node(self):
        for pages in PAGES:
            tree = counted(pages)
            self.assertEqual([tree[node] for node in range(1, 2 * pages)], tree.told)

    def test_no_node(self):
        for pages in PAGES:
            tree = counted(pages)
            for node in [0, -1, 2 * pages, 10 ** 100, -10 ** 100] + NO_INTEGERS:
                self.raises(BadNode, "number", node, lambda: tree[node])

    def test_iteration_raises(self):
        tree = Tree(3, STALE)
        for gone_over in (iter, list, tuple, sorted, set, enumerate, lambda rows: [row for row in rows]):
            self.assertRaises(TypeError, gone_over, tree)
        with self.assertRaises(TypeError):
            for _ in tree:
                self.fail("a node was yielded")

    def test_leaf_is_page_and_pages(self):
        for pages in PAGES:
            tree = counted(pages)
            self.assertEqual([tree.leaf(page) for page in range(pages)], list(range(pages, 2 * pages)))
        self.assertEqual(counted(4).leaf(page=3), 7)

    def test_way_goes_from_the_root_to_the_leaf(self):
        for pages in PAGES:
            tree = counted(pages)
            for page in range(pages):
                way = tree.way(page)
                self.assertIs(way.__class__, list)
                self.assertEqual((way[0], way[-1], 2 ** (len(way) - 1)), (1, pages + page, pages))
                for node, child in zip(way, way[1:]):
                    self.assertIn(child, (2 * node, 2 * node + 1))
        self.assertEqual(counted(8).way(page=5), [1, 3, 6, 13])
        self.assertEqual([counted(2).way(0), counted(2).way(1)], [[1, 2], [1, 3]])
        self.assertEqual(counted(32).way(31), [1, 3, 7, 15, 31, 63])

    def test_way_belongs_to_the_caller(self):
        tree = counted(4)
        tree.way(2).append(9)
        self.assertEqual(tree.way(2), [1, 3, 6])

    def test_no_page(self):
        for pages in PAGES:
            tree = counted(pages)
            for page in [-1, pages, 10 ** 100, -10 ** 100] + NO_INTEGERS:
                self.raises(BadPage, "number", page, tree.leaf, page)
                self.raises(BadPage, "number", page, tree.way, page)

    def test_greater_is_of_the_children(self):
        for tree in small_trees():
            for node in range(1, len(tree)):
                self.assertEqual(tree.greater(node), max(tree[2 * node], tree[2 * node + 1]))
        self.assertEqual([Tree(3, STALE).greater(node) for node in (1, 2, 3)], [2, 2, 1])
        self.assertEqual(Tree(3, [3, 0, 1]).greater(node=1), 1)

    def test_greater_of_no_inner_node(self):
        for pages in PAGES:
            tree = counted(pages)
            for node in [0, -1, pages, 2 * pages - 1, 2 * pages, 10 ** 100] + NO_INTEGERS:
                self.raises(BadNode, "number", node, tree.greater, node)


class Missing(Case):
    def test_missed_if_the_leaf_is_told_more_than_its_way(self):
        for tree in small_trees():
            missed = []
            for page in range(len(tree)):
                way = tree.way(page)
                if any(tree[way[-1]] > tree[node] for node in way):
                    missed.append(page)
            self.assertEqual(tree.missed(), missed)

    def test_missed_by_each_node_above(self):
        upright = Tree.flat(2, 32, 2)
        for page in range(32):
            for node in upright.way(page)[:-1]:
                lower = upright.with_told(node, 1)
                self.assertIn(page, lower.missed())
                self.assertEqual(lower.missed(), [other for other in range(32) if node in lower.way(other)])
            self.assertEqual(upright.with_told(upright.leaf(page), 0).missed(), [])

    def test_missed_lists(self):
        self.assertEqual(Tree(3, STALE).missed(), [])
        self.assertEqual(Tree(3, [0, 3, 3, 3, 0, 1, 0]).missed(), [0, 2])
        self.assertEqual(Tree(1, [1, 0, 1, 1, 1, 0, 1]).missed(), [0, 1])
        tree = Tree(1, [0, 1, 1])
        tree.missed().append(7)
        self.assertEqual(tree.missed(), [0, 1])

    def test_upright_if_no_node_is_told_more_than_its_parent(self):
        for tree in small_trees():
            upright = all(tree[node] <= tree[node // 2] for node in range(2, 2 * len(tree)))
            self.assertIs(tree.is_upright, upright)

    def test_upright_by_each_node(self):
        for pages in PAGES:
            upright = Tree.flat(2, pages, 1)
            self.says_true(upright.is_upright)
            for node in range(2, 2 * pages):
                self.says_false(upright.with_told(node, 2).is_upright)
                self.assertIs(upright.with_told(node, 0).is_upright, node >= pages)

    def test_upright_misses_nobody(self):
        for tree in small_trees():
            if tree.is_upright:
                self.assertEqual(tree.missed(), [])
        # A tree can miss nobody though it is not upright.
        tree = Tree(2, [2, 1, 2, 1, 1, 2, 2]).with_told(1, 1).with_told(6, 1).with_told(7, 1)
        self.assertEqual((tree.is_upright, tree.missed()), (False, []))


class Mending(Case):
    def test_mended_gives_each_inner_node_its_greater(self):
        for tree in small_trees():
            mended = tree.mended()
            pages = len(tree)
            self.assertIs(mended.__class__, Tree)
            self.assertEqual((mended.classes, len(mended)), (tree.classes, pages))
            self.assertEqual(mended.told[pages - 1:], tree.told[pages - 1:])
            for node in range(1, pages):
                self.assertEqual(mended[node], mended.greater(node))
            self.assertEqual((mended.missed(), mended.is_upright), ([], True))

    def test_mended_goes_from_the_last_node_to_the_root(self):
        for page in range(32):
            tree = Tree.flat(8, 32, 0).with_told(32 + page, 7)
            way = tree.way(page)
            mended = tree.mended()
            self.assertEqual([mended[node] for node in range(1, 64)], [7 * (node in way) for node in range(1, 64)])
        self.assertEqual(Tree.flat(8, 16, 8).mended(), Tree.flat(8, 16, 8))

    def test_mended_leaves_the_tree(self):
        tree = Tree(3, [0, 3, 3, 3, 0, 1, 0])
        self.assertEqual(tree.mended().told, [3, 3, 1, 3, 0, 1, 0])
        self.assertEqual(tree.told, [0, 3, 3, 3, 0, 1, 0])

    def test_with_told_changes_one_node(self):
        for pages in PAGES:
            tree = counted(pages)
            for node, told in itertools.product(range(1, 2 * pages), (0, 4, 8)):
                row = list(tree.told)
                row[node - 1] = told
                other = tree.with_told(node, told)
                self.assertEqual((other.classes, other.told), (8, row))
            self.assertEqual(tree, counted(pages))
        self.assertEqual(Tree(1, [0, 0, 0]).with_told(told=1, node=3).told, [0, 0, 1])

    def test_with_told_wrong(self):
        tree = Tree(3, STALE)
        for node in [0, -1, 8, 10 ** 100] + NO_INTEGERS:
            self.raises(BadNode, "number", node, tree.with_told, node, 1)
        for told in [-1, 4, 8, 10 ** 100] + NO_INTEGERS:
            self.raises(BadClass, "value", told, tree.with_told, 1, told)
        for node, told in itertools.product([0, 8, True], [-1, 4, None]):
            self.raises(BadNode, "number", node, tree.with_told, node, told)
            self.raises(BadNode, "number", node, tree.with_told, told=told, node=node)
        self.assertEqual(tree.told, STALE)


class Flat(Case):
    def test_all_nodes_are_told_the_same(self):
        for classes, pages in itertools.product((1, 3, 8), PAGES):
            for told in range(classes + 1):
                tree = Tree.flat(classes, pages, told)
                self.assertEqual((tree.classes, len(tree), tree.told), (classes, pages, [told] * (2 * pages - 1)))

    def test_by_name_and_off_a_tree(self):
        self.assertEqual(Tree.flat(told=1, pages=4, classes=2), Tree(2, [1] * 7))
        self.assertEqual(Tree(3, STALE).flat(2, 4, 1), Tree(2, [1] * 7))

    def test_wrong(self):
        for classes in [0, -1, 9, 10 ** 100] + NO_INTEGERS:
            self.raises(BadTree, "part", "classes", Tree.flat, classes, 2, 0)
        for pages in [0, 1, -2, 64, 10 ** 100] + [many for many in range(33) if many not in PAGES] + NO_INTEGERS:
            self.raises(BadPage, "number", pages, Tree.flat, 2, pages, 0)
        for told in [-1, 3, 8, 10 ** 100] + NO_INTEGERS:
            self.raises(BadClass, "value", told, Tree.flat, 2, 4, told)

    def test_the_leftmost_wrong_argument_is_told(self):
        for classes, pages, told in itertools.product([0, True, 2], [3, None, 4], [-1, 9, None]):
            if classes != 2 or classes is True:
                self.raises(BadTree, "part", "classes", Tree.flat, classes, pages, told)
            elif pages != 4:
                self.raises(BadPage, "number", pages, Tree.flat, told=told, pages=pages, classes=classes)
            else:
                self.raises(BadClass, "value", told, Tree.flat, classes, pages, told)


class Exact(Case):
    def test_leaves_tell_the_classes_and_inner_nodes_their_greater(self):
        steps = Steps(4, [1, 3])
        for pages in (2, 4):
            for rooms in itertools.product(range(5), repeat=pages):
                tree = Tree.exact(steps, rooms)
                self.assertEqual((tree.classes, len(tree)), (2, pages))
                self.assertEqual(tree.told[pages - 1:], [steps(room) for room in rooms])
                for node in range(1, pages):
                    self.assertEqual(tree[node], tree.greater(node))

    def test_every_number_of_pages_and_of_bounds(self):
        for pages, many in itertools.product(PAGES, range(1, 9)):
            steps = Steps(1000, [100 * k for k in range(1, many + 1)])
            rooms = [page * 137 % 1001 for page in range(pages)]
            tree = Tree.exact(steps, rooms)
            self.assertEqual((tree.classes, len(tree)), (many, pages))
            self.assertEqual(tree.told[pages - 1:], [min(room // 100, many) for room in rooms])
            self.assertEqual(tree, tree.mended())
            self.assertEqual((tree.missed(), tree.is_upright), ([], True))

    def test_edges_of_room(self):
        steps = Steps(12, [3, 6, 10])
        self.assertEqual(Tree.exact(steps, [4, 6, 9, 10]).told, [3, 2, 3, 1, 2, 2, 3])
        self.assertEqual(Tree.exact(steps, (0, 12)).told, [3, 0, 3])
        self.assertEqual(Tree.exact(steps, [0, 0]).told, [0, 0, 0])

    def test_by_name_and_off_a_tree(self):
        steps = Steps(12, [3, 6, 10])
        self.assertEqual(Tree.exact(rooms=[2, 3], steps=steps).told, [1, 0, 1])
        self.assertEqual(Tree(3, STALE).exact(steps, [2, 3]).told, [1, 0, 1])

    def test_no_steps(self):
        for steps in NO_INTEGERS + NO_ROWS + [(12, [3]), Tree(1, [0, 0, 0])]:
            self.raises(BadArgument, "value", steps, Tree.exact, steps, [1, 1])
            self.raises(BadArgument, "value", steps, Tree.exact, steps, [1, 1, 1])
            self.raises(BadArgument, "value", steps, Tree.exact, rooms=None, steps=steps)

    def test_no_rooms(self):
        steps = Steps(12, [3, 6, 10])
        wrong = [[0, 13], [-1, 0], [10 ** 100, 0], [0, EqualToAll()], [Falling(), 0], [[0], 0], [0, 1.0], ["0", 0]]
        wrong += [[0, True], [False, 0], (0, None), (0, True), steps, Tree(3, STALE)]
        wrong += [[0] * many for many in range(70) if many not in PAGES]
        wrong += [(0,) * many for many in range(70) if many not in PAGES]
        for rooms in wrong + NO_ROWS:
            self.raises(BadRooms, "value", rooms, Tree.exact, steps, rooms)

    def test_given_list_is_neither_kept_nor_changed(self):
        rooms = [4, 6, 9, 10]
        tree = Tree.exact(Steps(12, [3, 6, 10]), rooms)
        self.assertEqual(rooms, [4, 6, 9, 10])
        rooms[0] = 12
        self.assertEqual(tree.told, [3, 2, 3, 1, 2, 2, 3])


class Equality(Case):
    def test_by_classes_and_told_classes(self):
        every = [tree for tree in small_trees() if len(tree) == 2]
        for one, other in itertools.product(every, every):
            alike = (one.classes, one.told) == (other.classes, other.told)
            self.assertIs(one == other, alike)
            self.assertIs(one != other, not alike)

    def test_unlike_numbers_of_pages(self):
        self.says_false(Tree.flat(1, 2, 0) == Tree.flat(1, 4, 0))
        self.says_true(Tree.flat(8, 32, 5) == Tree.flat(8, 32, 5))

    def test_other_values(self):
        tree = Tree(1, [1, 1, 1])
        for value in NO_INTEGERS + NO_ROWS + [1, [1, 1, 1], (1, [1, 1, 1]), Steps(1, [1])]:
            self.says_false(tree == value)
            self.says_true(tree != value)

    def test_told_again_the_same(self):
        tree = Tree(3, STALE)
        self.assertIsInstance(repr(tree), str)
        self.assertEqual(repr(tree), repr(tree))
        for ask in (lambda: tree.told, lambda: tree.missed(), lambda: tree.way(2), lambda: tree.mended().told):
            self.assertEqual(ask(), ask())


if __name__ == "__main__":
    unittest.main()
