"""Promise 9: disks, and what a crash can leave of them; with promise 2, as far as it speaks of them."""

import itertools
import random
import unittest

from roomtold.disks import Disk
from roomtold.errors import BadArgument, BadNode
from roomtold.trees import Tree
from tests import played
from tests.checks import Case, firsts
from tests.odd import NO_INTEGERS, NO_OBJECTS, NO_WORDS
from tests.samples import PAGES, STALE, all_trees, counted, least_trees, stale_tree
from tests.test_writes import NO_ROWS_OF_STALE

ORDERS = ["in order", "anyhow"]
NO_ORDERS = ["in order ", "any", "anyhow!", "order", "inorder", ("in order",), ["anyhow"]] + NO_WORDS


def some_row(chance, tree, many):
    return [(chance.randint(1, 2 * len(tree) - 1), chance.randint(0, tree.classes)) for _ in range(many)]


def small_disks(seed, many):
    """Tuples (disk, tree as of the last flush, row since) of small trees, whose trees can all be gone through."""
    chance = random.Random(seed)
    every = list(least_trees())
    for _ in range(many):
        tree = chance.choice(every)
        row = some_row(chance, tree, chance.randint(0, 7))
        yield Disk(tree).with_row(row), tree, row


class Rows(Case):
    def test_at_the_beginning_all_is_flushed(self):
        for pages in PAGES:
            disk = Disk(counted(pages))
            self.assertEqual((disk.now, disk.flushed, disk.pending), (counted(pages), counted(pages), []))
        self.assertEqual(Disk(tree=Tree(3, STALE)).now.told, STALE)

    def test_rows_and_flushes_one_behind_another(self):
        chance = random.Random(90)
        for pages in PAGES * 6:
            flushed = now = stale_tree(chance, 8, pages)
            disk, pending = Disk(now), []
            for _ in range(12):
                if chance.randint(0, 3) == 0:
                    disk, flushed, pending = disk.with_flush(), now, []
                else:
                    row = some_row(chance, now, chance.randint(0, 4))
                    disk, pending = disk.with_row(row), pending + row
                    for node, told in row:
                        now = now.with_told(node, told)
                self.assertEqual((disk.now, disk.flushed, disk.pending), (now, flushed, pending))

    def test_writes_that_change_nothing_are_pending_too(self):
        disk = Disk(Tree(3, STALE)).with_row([(1, 2), (1, 2)])
        self.assertEqual((disk.now, disk.flushed, disk.pending), (Tree(3, STALE), Tree(3, STALE), [(1, 2), (1, 2)]))
        self.assertEqual(disk.with_row([]), disk)
        self.assertEqual(disk.with_row(row=[(2, 0)]).pending, [(1, 2), (1, 2), (2, 0)])

    def test_a_row_is_of_the_tree_as_it_is_written_now(self):
        disk = Disk(Tree.flat(2, 4, 0)).with_row([(7, 2)])
        for row in [[(8, 0)], [(1, 3)], [(0, 1)]]:
            self.raises(BadArgument, "value", row, disk.with_row, row)

    def test_wrong(self):
        self.wrong(Disk, ("tree", Tree(3, STALE), BadArgument, "value", NO_OBJECTS + [Disk(Tree(3, STALE))]))
        disk = Disk(Tree(3, STALE)).with_row([(1, 3)])
        self.wrong(disk.with_row, ("row", [], BadArgument, "value", NO_ROWS_OF_STALE))
        self.assertEqual((disk.now.told, disk.pending), ([3] + STALE[1:], [(1, 3)]))


class Trees(Case):
    def holds(self, disk, flushed, row):
        """All that is told of a small disk's trees, against those that are gone through."""
        told = played.plain(flushed)
        every = list(all_trees(flushed.classes, len(flushed)))
        for order in ORDERS:
            can_have = played.can_have(told, row, order)
            self.assertEqual([tuple(tree.told) for tree in disk.trees(order)], can_have)
            self.assertEqual(disk.count(order), len(can_have))
            have = set(can_have)
            for tree in every:
                self.assertIs(disk.can_have(tree, order), tuple(tree.told) in have)
            missable = {page for tree in can_have for page in played.missed([None, *tree])}
            self.assertEqual(disk.missable(order), sorted(missable))
            missing = disk.missing(order)
            if missable:
                self.assertIn(tuple(missing.told), have)
                self.assertNotEqual(played.missed([None, *missing.told]), [])
                self.assertEqual(missing.classes, flushed.classes)
            else:
                self.assertIsNone(missing)
        for node in range(1, 2 * len(flushed)):
            self.assertEqual(disk.can_tell(node), sorted({told[node]} | {other for at, other in row if at == node}))

    def test_small_disks(self):
        for disk, flushed, row in small_disks(91, 400):
            self.holds(disk, flushed, row)

    def test_small_disks_behind_a_flush_and_more_rows(self):
        chance = random.Random(92)
        for disk, _, _ in small_disks(93, 100):
            first, second = some_row(chance, disk.now, 2), some_row(chance, disk.now, 2)
            self.holds(disk.with_flush(), disk.now, [])
            self.holds(disk.with_flush().with_row(first).with_row(second), disk.now, first + second)

    def test_each_once_in_order_by_the_least_number_of_writes(self):
        disk = Disk(Tree(2, [0, 0, 0])).with_row([(1, 2), (1, 0), (2, 1), (1, 0), (1, 2), (2, 0)])
        told = [tree.told for tree in disk.trees("in order")]
        self.assertEqual(told, [[0, 0, 0], [2, 0, 0], [0, 1, 0], [2, 1, 0]])
        self.assertEqual(disk.count("in order"), 4)

    def test_each_once_anyhow_ascending(self):
        disk = Disk(Tree(2, [1, 0, 1])).with_row([(3, 0), (1, 2), (1, 0), (3, 1), (3, 0), (2, 0)])
        told = [tree.told for tree in disk.trees("anyhow")]
        self.assertEqual(told, [[0, 0, 0], [0, 0, 1], [1, 0, 0], [1, 0, 1], [2, 0, 0], [2, 0, 1]])
        self.assertEqual(disk.count("anyhow"), 6)
        self.assertEqual([disk.can_tell(node) for node in (1, 2, 3)], [[0, 1, 2], [0], [0, 1]])

    def test_without_a_write_since_just_the_flushed_tree(self):
        for pages in PAGES:
            tree = counted(pages)
            for disk, order in itertools.product([Disk(tree), Disk(tree).with_row([(1, tree[1])])], ORDERS):
                self.assertEqual((list(disk.trees(order)), disk.count(order)), ([tree], 1))
                self.assertEqual(disk.missable(order), tree.missed())
                self.assertEqual(disk.missing(order), tree if tree.missed() else None)

    def test_missable_anyhow_by_the_leaf_and_the_nodes_above_it(self):
        chance = random.Random(94)
        for pages in PAGES * 4:
            disk = Disk(stale_tree(chance, 8, pages, shift=6))
            disk = disk.with_row(some_row(chance, disk.now, chance.randint(0, 12)))
            pages_missed = []
            for page in range(pages):
                way = disk.now.way(page)
                least = min(disk.can_tell(node)[0] for node in way[:-1])
                if disk.can_tell(way[-1])[-1] > least:
                    pages_missed.append(page)
            self.assertEqual(disk.missable("anyhow"), pages_missed)
            missing = disk.missing("anyhow")
            if pages_missed:
                self.says_true(disk.can_have(missing, "anyhow"))
                self.assertTrue(missing.missed())
            else:
                self.assertIsNone(missing)

    def test_in_order_of_every_number_of_pages(self):
        chance = random.Random(95)
        for pages in PAGES * 4:
            flushed = stale_tree(chance, 3, pages, shift=3)
            row = some_row(chance, flushed, 30)
            disk = Disk(flushed).with_row(row)
            can_have = played.in_order(played.plain(flushed), row)
            self.assertEqual([tuple(tree.told) for tree in disk.trees("in order")], can_have)
            missed = {page for tree in can_have for page in played.missed([None, *tree])}
            self.assertEqual(disk.missable("in order"), sorted(missed))

    def test_can_have_of_any_value(self):
        disk = Disk(Tree(3, STALE)).with_row([(1, 3)])
        others = [Tree(4, STALE), Tree(3, STALE[:3]), Tree(3, STALE * 2 + [0]), Tree(3, [1] + STALE[1:]), disk, STALE,
                  tuple(STALE), Disk, Tree]
        for value, order in itertools.product(others + NO_OBJECTS, ORDERS):
            self.says_false(disk.can_have(value, order))
        for told, order in itertools.product((2, 3), ORDERS):
            self.says_true(disk.can_have(order=order, value=Tree(3, [told] + STALE[1:])))
        self.says_false(Disk(Tree.flat(1, 4, 0)).can_have(Tree.flat(1, 2, 0), "anyhow"))
        self.says_false(Disk(Tree.flat(1, 4, 0)).can_have(Tree.flat(2, 4, 0), "anyhow"))

    def test_by_name(self):
        disk = Disk(Tree(1, [0, 0, 0])).with_row([(1, 1), (2, 1)])
        self.assertEqual([tree.told for tree in disk.trees(order="in order")], [[0, 0, 0], [1, 0, 0], [1, 1, 0]])
        self.assertEqual([disk.count(order="anyhow"), disk.missable(order="anyhow")], [4, [0]])
        self.assertEqual([disk.missing(order="anyhow").told, disk.can_tell(node=1)], [[0, 1, 0], [0, 1]])

    def test_wrong(self):
        disk = Disk(Tree(3, STALE)).with_row([(1, 3)])
        for call in (firsts(disk.trees), disk.count, disk.missable, disk.missing):
            self.wrong(call, ("order", "anyhow", BadArgument, "value", NO_ORDERS))
        for order, value in itertools.product(NO_ORDERS, (Tree(3, STALE), None, 1)):
            self.raises(BadArgument, "value", order, disk.can_have, value, order)
        self.wrong(disk.can_tell, ("node", 1, BadNode, "number", [0, -1, 8, 10 ** 100] + NO_INTEGERS))

    def test_trees_raises_when_its_first_value_is_asked_for(self):
        trees = Disk(Tree(3, STALE)).trees("no order")
        self.assertRaises(BadArgument, next, trees)


class Values(Case):
    def test_now_flushed_and_pending_are_properties(self):
        disk = Disk(Tree(3, STALE))
        for name in ("now", "flushed", "pending"):
            with self.assertRaises(AttributeError):
                setattr(disk, name, disk.now)

    def test_a_disk_is_a_value(self):
        disk = Disk(Tree(3, STALE)).with_row([(1, 3)])
        told = (disk.now.told, disk.flushed.told, disk.pending)
        disk.with_row([(2, 0)])
        disk.with_flush()
        for order in ORDERS:
            list(disk.trees(order))
            disk.missing(order)
        self.assertEqual((disk.now.told, disk.flushed.told, disk.pending), told)

    def test_given_row_is_neither_kept_nor_changed(self):
        row = [(1, 3)]
        disk = Disk(Tree(3, STALE)).with_row(row)
        disk.with_row([(2, 0)])
        self.assertEqual(row, [(1, 3)])
        row[0] = (1, 0)
        row.append((2, 0))
        self.assertEqual((disk.now.told, disk.pending, disk.count("anyhow")), ([3] + STALE[1:], [(1, 3)], 2))

    def test_returned_lists_belong_to_the_caller(self):
        disk = Disk(Tree(1, [0, 0, 0])).with_row([(1, 1), (2, 1)])
        for ask in (lambda: disk.pending, lambda: disk.can_tell(1), lambda: disk.missable("anyhow")):
            first = ask()
            told = list(first)
            self.assertIs(first.__class__, list)
            first.append(9)
            self.assertEqual(ask(), told)

    def test_equality(self):
        tree = Tree(1, [0, 0, 0])
        disks = [Disk(tree), Disk(tree.with_told(1, 1)), Disk(Tree(2, [0, 0, 0])), Disk(Tree.flat(1, 4, 0))]
        disks += [Disk(tree).with_row(row) for row in ([(1, 1)], [(1, 0)], [(1, 1), (1, 1)], [(1, 1), (1, 0)])]
        for one, other in itertools.product(range(len(disks)), repeat=2):
            self.assertIs(disks[one] == disks[other], one == other)
            self.assertIs(disks[one] != disks[other], one != other)
        self.says_true(Disk(tree).with_row([(1, 1)]) == Disk(Tree(1, (0, 0, 0))).with_row([(1, 1)]))
        self.says_true(Disk(tree).with_row([(1, 1)]).with_flush() == Disk(tree.with_told(1, 1)))
        # The same tree now and the same row since, but another tree as of the last flush.
        self.says_false(Disk(tree).with_row([(1, 1)]) == Disk(tree.with_told(1, 1)).with_row([(1, 1)]))

    def test_equality_with_other_values(self):
        disk = Disk(Tree(3, STALE))
        for value in NO_OBJECTS + [Tree(3, STALE), (disk.now, disk.flushed, disk.pending)]:
            self.says_false(disk == value)
            self.says_true(disk != value)
        self.assertEqual(repr(disk), repr(disk))

    def test_quick_though_the_trees_are_very_many(self):
        tree = Tree.flat(8, 32, 4)
        row = [(node, told) for told in (0, 8, 2, 4, 6, 1) for node in range(1, 64)]
        disk = Disk(tree).with_row(row)
        # In order the tree as of the last flush comes again, when all is told 4 anew.
        self.assertEqual((disk.count("anyhow"), disk.count("in order")), (6 ** 63, 6 * 63))
        self.assertEqual(disk.missable("anyhow"), list(range(32)))
        self.says_true(disk.can_have(disk.missing("anyhow"), "anyhow"))
        self.assertTrue(disk.missing("anyhow").missed())
        self.says_true(disk.can_have(Tree.flat(8, 32, 8), "anyhow"))
        self.says_false(disk.can_have(Tree.flat(8, 32, 3), "anyhow"))
        self.says_true(disk == Disk(tree).with_row(row))
        first = list(itertools.islice(disk.trees("anyhow"), 8))
        self.assertEqual([other.told[61:] for other in first],
                         [[0, told] for told in (0, 1, 2, 4, 6, 8)] + [[1, 0], [1, 1]])
        self.assertEqual({tuple(other.told[:61]) for other in first}, {(0,) * 61})


if __name__ == "__main__":
    unittest.main()
