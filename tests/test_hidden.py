"""Promise 13: hidden pages, hidden room and cleanings; with promise 2, as far as it speaks of them."""

import itertools
import random
import unittest

from roomtold.disks import Disk
from roomtold.errors import BadArgument, BadRooms
from roomtold.hidden import clean_deeds, cleaned, hidden_pages, hidden_room
from roomtold.settings import Setting, done_whole
from roomtold.steps import Steps
from roomtold.trees import Tree
from tests import played
from tests.checks import Case
from tests.odd import NO_OBJECTS
from tests.samples import PAGES, STALE, all_trees, big_cases, some_steps, stale_tree
from tests.test_search import NO_ROOMS, NO_STEPS, ROOMS, STEPS

CALLS = (hidden_pages, hidden_room, clean_deeds, cleaned)


def cases():
    """Small trees with all rooms, and some of each number of pages."""
    for bounds, most in (([1], 1), ([2], 2), ([1, 2], 2), ([1, 3], 3)):
        for rooms in itertools.product(range(most + 1), repeat=2):
            for tree in all_trees(len(bounds), 2):
                yield tree, Steps(most, bounds), rooms
    yield from big_cases(131, 40)


class Told(Case):
    def test_hidden_if_the_leaf_is_told_less_than_the_class(self):
        for tree, steps, rooms in cases():
            leaves = tree.told[len(tree) - 1:]
            hidden = [page for page, room in enumerate(rooms) if leaves[page] < played.class_of(steps.bounds, room)]
            self.assertEqual(hidden_pages(tree, steps, rooms), hidden)
            self.assertEqual(hidden_room(tree, steps, rooms), sum(rooms[page] for page in hidden))

    def test_a_cleaning_played(self):
        for tree, steps, rooms in cases():
            told, deeds = played.plain(tree), []
            for page, room in enumerate(rooms):
                leaf, right = told[len(tree) + page], played.class_of(steps.bounds, room)
                if leaf < right:
                    deeds.append(("raise", page, right))
                    played.raise_page(told, page, right, True)
                elif leaf > right:
                    deeds.append(("lower", page, right))
                    played.lower_node(told, len(tree) + page, right)
            self.assertEqual(clean_deeds(tree, steps, rooms), deeds)
            self.assertEqual(cleaned(tree, steps, rooms).told, told[1:])

    def test_behind_a_cleaning(self):
        for tree, steps, rooms in cases():
            clean = cleaned(tree, steps, rooms)
            self.assertEqual(clean.told[len(tree) - 1:], [steps(room) for room in rooms])
            self.assertEqual((hidden_pages(clean, steps, rooms), hidden_room(clean, steps, rooms)), ([], 0))
            self.assertEqual((clean_deeds(clean, steps, rooms), cleaned(clean, steps, rooms)), ([], clean))
            if tree.is_upright:
                self.says_true(clean.is_upright)

    def test_by_each_setting_the_deeds_leave_the_cleaned_tree(self):
        chance = random.Random(132)
        for setting in Setting.every():
            steps = some_steps(chance, 3, 20)
            rooms = [chance.randint(0, 20) for _ in range(8)]
            disk = Disk(stale_tree(chance, 3, 8, 1))
            clean = cleaned(disk.now, steps, rooms)
            for deed in clean_deeds(disk.now, steps, rooms):
                disk = done_whole(setting, disk, deed)
            self.assertEqual(disk.now, clean)


class Examples(Case):
    def test_told_too_low_too_high_and_just_right(self):
        # The classes of the rooms are 1, 2, 2 and 3.
        tree = Tree(3, [3, 3, 2, 1, 3, 0, 2])
        self.assertEqual(hidden_pages(tree, STEPS, ROOMS), [2, 3])
        self.assertEqual(hidden_room(tree, STEPS, ROOMS), 19)
        deeds = [("lower", 1, 2), ("raise", 2, 2), ("raise", 3, 3)]
        self.assertEqual(clean_deeds(tree, STEPS, ROOMS), deeds)
        self.assertEqual(cleaned(tree, STEPS, ROOMS).told, [3, 2, 3, 1, 2, 2, 3])

    def test_an_exact_tree_hides_nothing(self):
        chance = random.Random(133)
        for pages, classes in itertools.product(PAGES, range(1, 9)):
            steps = some_steps(chance, classes, 100)
            rooms = [chance.randint(0, 100) for _ in range(pages)]
            tree = Tree.exact(steps, rooms)
            self.assertEqual([call(tree, steps, rooms) for call in CALLS], [[], 0, [], tree])

    def test_pages_missed_but_not_hidden(self):
        # The leaf is told rightly, and the nodes above it too low: nothing is put right.
        tree = Tree(3, [0, 0, 0, 1, 2, 2, 3])
        self.assertEqual(tree.missed(), [0, 1, 2, 3])
        self.assertEqual([call(tree, STEPS, ROOMS) for call in CALLS], [[], 0, [], tree])

    def test_nothing_else_is_put_right(self):
        # The inner nodes are told too much, and stay as no deed goes by them.
        tree = Tree(3, [3, 3, 3, 1, 2, 2, 2])
        self.assertEqual(cleaned(tree, STEPS, [4, 6, 9, 9]), tree)
        # A lowering puts right the nodes of its own way alone.
        self.assertEqual(cleaned(tree, STEPS, [2, 6, 9, 9]).told, [3, 2, 3, 0, 2, 2, 2])

    def test_hidden_room_is_the_whole_true_room(self):
        tree = Tree.flat(3, 4, 0)
        self.assertEqual(hidden_room(tree, STEPS, [12, 2, 3, 0]), 15)
        self.assertEqual(hidden_pages(tree, STEPS, [12, 2, 3, 0]), [0, 2])
        self.assertEqual(hidden_room(Tree.flat(8, 32, 0), Steps(1000, [1, 2, 3, 4, 5, 6, 7, 8]), [1000] * 32), 32000)

    def test_by_name(self):
        named = {"rooms": tuple(ROOMS), "steps": STEPS, "tree": Tree(3, STALE)}
        self.assertEqual([hidden_pages(**named), hidden_room(**named)], [[1, 2, 3], 25])
        self.assertEqual(clean_deeds(**named), [("lower", 0, 1), ("raise", 1, 2), ("raise", 2, 2), ("raise", 3, 3)])
        self.assertEqual(cleaned(**named).told, [3, 2, 3, 1, 2, 2, 3])


class Values(Case):
    def test_wrong(self):
        for call in CALLS:
            self.wrong(
                call,
                ("tree", Tree(3, STALE), BadArgument, "value", NO_OBJECTS + [Disk(Tree(3, STALE))]),
                ("steps", STEPS, BadArgument, "value", NO_STEPS),
                ("rooms", ROOMS, BadRooms, "value", NO_ROOMS),
            )

    def test_nothing_given_is_changed(self):
        tree, rooms = Tree(3, STALE), list(ROOMS)
        for call in CALLS * 2:
            call(tree, STEPS, rooms)
        self.assertEqual((tree.told, rooms, STEPS.bounds), (STALE, ROOMS, [3, 6, 10]))

    def test_returned_lists_belong_to_the_caller(self):
        tree = Tree(3, STALE)
        for call in (hidden_pages, clean_deeds):
            first = call(tree, STEPS, ROOMS)
            told = list(first)
            self.assertIs(first.__class__, list)
            first.append(9)
            self.assertEqual(call(tree, STEPS, ROOMS), told)

    def test_a_cleaned_tree_does_not_hang_on_the_rooms(self):
        rooms = list(ROOMS)
        tree = cleaned(Tree(3, STALE), STEPS, rooms)
        rooms[:] = [0, 0, 0, 0]
        self.assertEqual(tree.told, [3, 2, 3, 1, 2, 2, 3])


if __name__ == "__main__":
    unittest.main()
