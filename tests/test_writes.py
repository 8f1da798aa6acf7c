"""Promise 6: raisings, lowerings and rows of writes; with promise 2, as far as it speaks of them."""

import itertools
import random
import unittest

from roomtold.errors import BadArgument, BadClass, BadNode, BadPage
from roomtold.trees import Tree
from roomtold.writes import lowering, raising, stages, written
from tests import played
from tests.checks import Case, firsts
from tests.odd import NO_ANSWERS, NO_INTEGERS, NO_OBJECTS, NO_ROWS, EqualToAll, Falling
from tests.samples import PAGES, STALE, counted, small_trees, stale_tree, upright_tree

NO_WRITES = [
    (), (1,), (1, 1, 1), (0, 1), (8, 1), (-1, 1), (1, -1), (1, 4), (True, 1), (1, True), (False, 1), (1, False),
    (1.0, 1), (1, 1.0), ("1", 1), (1, None), (None, 1), [1, 1], [], "11", 1, None, {1: 1}, (EqualToAll(), 1),
    (1, EqualToAll()), (Falling(), 1), (1, Falling()), EqualToAll(), Falling(), ((1, 1),), (10 ** 100, 1),
    (1, 10 ** 100),
]
NO_ROWS_OF_STALE = NO_ROWS + [((1, 1),), (), ((1, 1), (2, 1)), "", [[1, 1]], Tree(3, STALE)]
NO_ROWS_OF_STALE += [[write] for write in NO_WRITES] + [[(1, 1), write] for write in NO_WRITES]


class Raising(Case):
    def test_each_node_of_the_way_that_is_told_less_gets_the_class(self):
        for tree in small_trees():
            for page, told, above in itertools.product(range(len(tree)), range(tree.classes + 1), (True, False)):
                behind = played.plain(tree)
                row = played.raise_page(behind, page, told, above)
                self.assertEqual(raising(tree, page, told, above=above), row)
                self.assertEqual(written(tree, row).told, behind[1:])

    def test_every_number_of_pages(self):
        for pages, told in itertools.product(PAGES, range(9)):
            tree = counted(pages)
            for page, above in itertools.product(range(pages), (True, False)):
                row = played.raise_page(played.plain(tree), page, told, above)
                self.assertEqual(raising(tree, page, told, above=above), row)

    def test_from_above_is_the_rule_and_from_below_the_opposite_order(self):
        tree = Tree.flat(3, 4, 1)
        self.assertEqual(raising(tree, 2, 3), [(1, 3), (3, 3), (6, 3)])
        self.assertEqual(raising(tree, 2, 3, above=True), [(1, 3), (3, 3), (6, 3)])
        self.assertEqual(raising(tree, 2, 3, above=False), [(6, 3), (3, 3), (1, 3)])

    def test_also_if_the_leaf_is_told_as_much_already(self):
        tree = Tree(3, [0, 3, 1, 0, 0, 2, 0])
        self.assertEqual(raising(tree, 2, 2), [(1, 2), (3, 2)])
        self.assertEqual(raising(tree, 2, 2, above=False), [(3, 2), (1, 2)])
        self.assertEqual(raising(tree, 2, 1), [(1, 1)])
        self.assertEqual(raising(tree, 2, 0), [])
        self.assertEqual(raising(tree, 0, 3), [(1, 3), (4, 3)])

    def test_nothing_to_write(self):
        tree = Tree.flat(3, 8, 2)
        for told in (0, 1, 2):
            self.assertEqual([raising(tree, 5, told), raising(tree, 5, told, above=False)], [[], []])

    def test_by_name(self):
        self.assertEqual(raising(above=False, told=3, page=0, tree=Tree.flat(3, 2, 0)), [(2, 3), (1, 3)])

    def test_above_is_given_by_name_alone(self):
        self.assertRaises(TypeError, raising, Tree(3, STALE), 0, 3, True)
        self.assertRaises(TypeError, lowering, Tree(3, STALE), 1, 0, False)

    def test_from_above_an_upright_tree_is_upright_all_along(self):
        chance = random.Random(6)
        for pages in PAGES * 20:
            tree = upright_tree(chance, 8, pages)
            row = raising(tree, chance.randrange(pages), chance.randint(0, 8))
            self.assertEqual([stage.is_upright for stage in stages(tree, row)], [True] * (len(row) + 1))

    def test_wrong(self):
        self.wrong(
            raising,
            ("tree", Tree(3, STALE), BadArgument, "value", NO_OBJECTS),
            ("page", 1, BadPage, "number", [-1, 4, 8, 10 ** 100] + NO_INTEGERS),
            ("told", 3, BadClass, "value", [-1, 4, 8, 10 ** 100] + NO_INTEGERS),
            ("above", True, BadArgument, "value", NO_ANSWERS),
        )


class Lowering(Case):
    def test_the_node_then_those_above_told_more_than_their_greater(self):
        for tree in small_trees():
            for node, told in itertools.product(range(1, 2 * len(tree)), range(tree.classes + 1)):
                behind = played.plain(tree)
                row = played.lower_node(behind, node, told)
                self.assertEqual(lowering(tree, node, told), row)
                self.assertEqual(lowering(tree, node, told, above=False), row)
                self.assertEqual(lowering(tree, node, told, above=True), row[::-1])
                self.assertEqual(written(tree, row).told, behind[1:])
                self.assertEqual(written(tree, row[::-1]).told, behind[1:])

    def test_every_number_of_pages(self):
        chance = random.Random(7)
        for pages in PAGES * 10:
            for tree in (counted(pages), stale_tree(chance, 8, pages, 3), upright_tree(chance, 8, pages)):
                for node in range(1, 2 * pages):
                    told = chance.randint(0, 8)
                    row = played.lower_node(played.plain(tree), node, told)
                    self.assertEqual(lowering(tree, node, told), row)
                    self.assertEqual(lowering(tree, node, told, above=True), row[::-1])

    def test_it_goes_on_above_the_nodes_that_stay(self):
        # Node 2 is told less than its greater and stays; the root is told more than its own.
        tree = Tree(3, [3, 0, 1, 2, 2, 1, 0])
        self.assertEqual(lowering(tree, 4, 1), [(4, 1), (1, 1)])
        self.assertEqual(lowering(tree, 4, 1, above=True), [(1, 1), (4, 1)])
        self.assertEqual(lowering(Tree.flat(3, 4, 2), 7, 0), [(7, 0)])

    def test_not_less_than_it_is_told_writes_nothing(self):
        # Nodes above it that are told more than their greater stay then, too.
        tree = Tree(3, [3, 2, 0, 1, 0, 0, 0])
        for node in range(1, 8):
            for told in range(tree[node], 4):
                self.assertEqual([lowering(tree, node, told), lowering(tree, node, told, above=True)], [[], []])

    def test_inner_nodes_and_the_root(self):
        tree = Tree.flat(3, 4, 3)
        self.assertEqual(lowering(tree, 1, 0), [(1, 0)])
        self.assertEqual(lowering(tree, 2, 1), [(2, 1)])
        self.assertEqual(lowering(tree.with_told(3, 0), 2, 1), [(2, 1), (1, 1)])

    def test_by_name(self):
        self.assertEqual(lowering(above=True, told=0, node=2, tree=Tree(1, [1, 1, 0])), [(1, 0), (2, 0)])

    def test_from_below_an_upright_tree_is_upright_all_along(self):
        chance = random.Random(8)
        for pages in PAGES * 20:
            tree = upright_tree(chance, 8, pages)
            row = lowering(tree, tree.leaf(chance.randrange(pages)), 0)
            self.assertEqual([stage.is_upright for stage in stages(tree, row)], [True] * (len(row) + 1))

    def test_wrong(self):
        self.wrong(
            lowering,
            ("tree", Tree(3, STALE), BadArgument, "value", NO_OBJECTS),
            ("node", 1, BadNode, "number", [0, -1, 8, 10 ** 100] + NO_INTEGERS),
            ("told", 0, BadClass, "value", [-1, 4, 8, 10 ** 100] + NO_INTEGERS),
            ("above", True, BadArgument, "value", NO_ANSWERS),
        )


class Rows(Case):
    def test_written_one_behind_the_other(self):
        tree = Tree(3, STALE)
        self.assertEqual(written(tree, [(1, 3), (7, 2), (1, 0), (4, 2)]).told, [0, 2, 1, 2, 1, 1, 2])
        self.assertEqual(written(row=[(2, 0)], tree=tree).told, [2, 0, 1, 2, 1, 1, 0])

    def test_stages_one_behind_the_other(self):
        tree = Tree(3, STALE)
        told = [stage.told for stage in stages(tree, [(1, 3), (7, 2), (1, 0)])]
        self.assertEqual(told, [STALE, [3] + STALE[1:], [3] + STALE[1:6] + [2], [0] + STALE[1:6] + [2]])
        self.assertEqual([stage.told for stage in stages(row=[], tree=tree)], [STALE])

    def test_empty_row(self):
        for pages in PAGES:
            tree = counted(pages)
            self.assertEqual(written(tree, []), tree)
            self.assertEqual(list(stages(tree, [])), [tree])

    def test_writes_that_change_nothing(self):
        tree = Tree(3, STALE)
        row = [(1, 2), (1, 2), (7, 0)]
        self.assertEqual(written(tree, row), tree)
        self.assertEqual(list(stages(tree, row)), [tree] * 4)

    def test_any_node_and_any_class(self):
        for tree in small_trees():
            for node, told in itertools.product(range(1, 2 * len(tree)), range(tree.classes + 1)):
                self.assertEqual(written(tree, [(node, told)]), tree.with_told(node, told))

    def test_stages_end_with_what_is_written(self):
        chance = random.Random(9)
        for pages in PAGES * 5:
            tree = stale_tree(chance, 8, pages)
            row = [(chance.randint(1, 2 * pages - 1), chance.randint(0, 8)) for _ in range(60)]
            every = list(stages(tree, row))
            self.assertEqual(len(every), 61)
            for many in (0, 1, 2, 30, 60):
                self.assertEqual(every[many], written(tree, row[:many]))
            self.assertEqual({stage.classes for stage in every}, {8})

    def test_no_row(self):
        tree = Tree(3, STALE)
        for row in NO_ROWS_OF_STALE:
            self.raises(BadArgument, "value", row, written, tree, row)
            self.raises(BadArgument, "value", row, firsts(stages), tree, row)

    def test_node_and_class_of_this_tree(self):
        for pages, classes in itertools.product(PAGES, range(1, 9)):
            tree = Tree.flat(classes, pages, 0)
            self.assertEqual(written(tree, [(2 * pages - 1, classes), (1, 0)]).told, [0] * (2 * pages - 2) + [classes])
            for write in [(0, 0), (2 * pages, 0), (1, classes + 1), (1, -1)]:
                row = [write]
                self.raises(BadArgument, "value", row, written, tree, row)
                self.raises(BadArgument, "value", row, firsts(stages), tree, row)

    def test_wrong(self):
        for call in (written, firsts(stages)):
            self.wrong(
                call,
                ("tree", Tree(3, STALE), BadArgument, "value", NO_OBJECTS),
                ("row", [(1, 1)], BadArgument, "value", NO_ROWS_OF_STALE),
            )

    def test_stages_raises_when_its_first_value_is_asked_for(self):
        for tree, row in [(None, []), (Tree(3, STALE), None), (Tree(3, STALE), [(0, 0)])]:
            going = stages(tree, row)
            self.assertRaises(BadArgument, next, going)

    def test_stages_reads_the_row_when_its_first_value_is_asked_for(self):
        row = [None]
        going = stages(Tree(3, STALE), row)
        row[0] = (1, 0)
        self.assertEqual([tree[1] for tree in going], [2, 0])

    def test_a_row_made_longer_meanwhile(self):
        row = [(1, 0), (1, 1)]
        told = []
        for tree in stages(Tree(3, STALE), row):
            told.append(tree[1])
            row.append((1, 3))
            row[1] = None
        self.assertEqual(told, [2, 0, 1])


class Values(Case):
    def test_nothing_given_is_changed(self):
        tree, row = Tree(3, STALE), [(1, 0), (7, 3)]
        for _ in range(2):
            raising(tree, 3, 3)
            lowering(tree, 4, 0)
            written(tree, row)
            list(stages(tree, row))
        self.assertEqual((tree.told, row), (STALE, [(1, 0), (7, 3)]))

    def test_returned_rows_belong_to_the_caller(self):
        tree = Tree(3, STALE)
        for ask in (lambda: raising(tree, 3, 3), lambda: raising(tree, 3, 0), lambda: lowering(tree, 4, 0)):
            row = ask()
            told = list(row)
            row.append((1, 1))
            self.assertEqual(ask(), told)

    def test_kinds_of_values(self):
        tree = Tree(3, STALE)
        for row in (raising(tree, 3, 3), lowering(tree, 4, 0)):
            self.assertIs(row.__class__, list)
            self.assertEqual({(write.__class__, len(write)) for write in row}, {(tuple, 2)})
        self.assertIs(written(tree, []).__class__, Tree)

    def test_a_written_tree_does_not_hang_on_the_row(self):
        row = [(1, 0)]
        tree = written(Tree(3, STALE), row)
        row[0] = (1, 3)
        row.append((2, 3))
        self.assertEqual(tree.told, [0] + STALE[1:])


if __name__ == "__main__":
    unittest.main()
