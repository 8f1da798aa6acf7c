"""Promises 7, 8 and 1 (a): searches, told ahead by the ways and played; with promise 2, as far as it speaks of them."""

import itertools
import random
import unittest

from roomtold.errors import BadArgument, BadRooms, BadSize
from roomtold.search import behind, found, going, good_pages, looked_at, out_of_sight, search_row, searches
from roomtold.steps import Steps
from roomtold.trees import Tree
from roomtold.writes import written
from tests import played
from tests.checks import Case, firsts
from tests.odd import NO_ANSWERS, NO_INTEGERS, NO_OBJECTS, NO_ROWS, EqualToAll, Falling
from tests.samples import PAGES, STALE, all_trees, big_cases, upright_tree

STEPS = Steps(12, [3, 6, 10])
ROOMS = [4, 6, 9, 10]
NO_STEPS = NO_OBJECTS + [Steps(12, [3, 6]), Steps(12, [3, 6, 9, 10]), Tree(3, STALE), [3, 6, 10]]
NO_ROOMS = NO_ROWS + [
    [], [4, 6], [4, 6, 9], [4, 6, 9, 10, 4], [4] * 8, (4, 6, 9), [4, 6, 9, 13], [-1, 6, 9, 10], [4, 6, 9, True],
    [False, 6, 9, 10], [4, 6.0, 9, 10], [4, 6, None, 10], [4, 6, EqualToAll(), 10], [4, Falling(), 9, 10], STEPS,
]
NO_SIZES = [0, -1, 13, 1001, 10 ** 100] + NO_INTEGERS
TELLING = (good_pages, found, looked_at, behind, out_of_sight, firsts(going), search_row)


def small_cases():
    """All trees of the least kinds with all rooms, by small steps."""
    for most, bounds in [(1, [1]), (2, [2]), (3, [2])]:
        for rooms in itertools.product(range(most + 1), repeat=2):
            for tree in all_trees(1, 2):
                yield tree, Steps(most, bounds), rooms
    for most, bounds in [(2, [1, 2]), (4, [1, 3])]:
        for rooms in itertools.product(range(most + 1), repeat=2):
            for tree in all_trees(2, 2):
                yield tree, Steps(most, bounds), rooms
    for rooms in itertools.product(range(3), repeat=4):
        for tree in all_trees(1, 4):
            yield tree, Steps(2, [1]), rooms


def sizes_of(steps):
    """Sizes at the bounds, beside them, and the least and the greatest one."""
    sizes = {1, steps.most}
    for bound in steps.bounds:
        sizes |= {bound - 1, bound, bound + 1}
    return sorted(size for size in sizes if 1 <= size <= steps.most)


class Told(Case):
    def holds(self, tree, steps, rooms, size):
        """All that is told of a search, against the search that is played."""
        given = (tree, steps, rooms, size)
        parts, row, told = played.search(played.plain(tree), steps.bounds, rooms, size)
        self.assertEqual(list(going(*given)), parts)
        self.assertEqual(found(*given), parts[-1][1] if parts[-1] != ("nothing",) else None)
        self.assertEqual(looked_at(*given), [part[1] for part in parts if part[0] == "look"])
        self.assertEqual(behind(*given).told, told[1:])
        self.assertEqual(search_row(*given), row)
        above = played.search(played.plain(tree), steps.bounds, rooms, size, above=True)[1]
        self.assertEqual(search_row(*given, above=True), above)
        self.assertEqual(written(tree, above).told, told[1:])
        self.holds_of_pages(tree, steps, rooms, size)

    def holds_of_pages(self, tree, steps, rooms, size):
        needs = [at for at, bound in enumerate(steps.bounds, 1) if bound >= size]
        good, hidden = [], []
        for page in range(len(tree)):
            if needs and rooms[page] >= size:
                seen = all(tree[node] >= needs[0] for node in tree.way(page))
                (good if seen else hidden).append(page)
        given = (tree, steps, rooms, size)
        self.assertEqual((good_pages(*given), out_of_sight(*given)), (good, hidden))
        self.assertEqual(found(*given), good[0] if good else None)

    def test_small_trees(self):
        for tree, steps, rooms in small_cases():
            for size in range(1, steps.most + 1):
                self.holds(tree, steps, rooms, size)

    def test_up_to_32_pages(self):
        for tree, steps, rooms in big_cases(78, 12):
            sizes = sizes_of(steps)
            for size in sizes[::max(1, len(sizes) // 6)] + sizes[-1:]:
                self.holds(tree, steps, rooms, size)

    def test_the_ways_alone_tell_what_is_looked_at(self):
        for tree, steps, rooms in big_cases(79, 6):
            for size in sizes_of(steps)[:4]:
                need = steps.need(size)
                if need is not None:
                    at = found(tree, steps, rooms, size)
                    ahead = [page for page in range(len(tree)) if at is None or page <= at]
                    ways = [page for page in ahead if all(tree[node] >= need for node in tree.way(page))]
                    self.assertEqual(looked_at(tree, steps, rooms, size), ways)

    def test_behind_a_search_that_finds_nothing_the_root_is_told_less(self):
        for tree, steps, rooms in big_cases(80, 4):
            for size in sizes_of(steps)[:3]:
                need = steps.need(size)
                if need is not None and found(tree, steps, rooms, size) is None:
                    self.assertLess(behind(tree, steps, rooms, size)[1], need)

    def test_on_an_exact_tree_just_the_pages_with_class_enough_are_good(self):
        for _, steps, rooms in big_cases(81, 2):
            exact = Tree.exact(steps, rooms)
            for size in sizes_of(steps):
                need = steps.need(size)
                if need is not None:
                    enough = [page for page, room in enumerate(rooms) if steps(room) >= need]
                    lost = [page for page, room in enumerate(rooms) if room >= size and steps(room) < need]
                    self.assertEqual(good_pages(exact, steps, rooms, size), enough)
                    self.assertEqual(out_of_sight(exact, steps, rooms, size), lost)

    def test_an_upright_tree_is_upright_behind_a_search(self):
        chance = random.Random(11)
        for pages in PAGES * 8:
            tree = upright_tree(chance, 3, pages)
            rooms = [chance.randint(0, 12) for _ in range(pages)]
            for size in (1, 3, 6, 10):
                self.says_true(behind(tree, STEPS, rooms, size).is_upright)


class Examples(Case):
    def test_of_the_document(self):
        tree = Tree(3, STALE)
        self.assertEqual([STEPS(5), STEPS.need(4), STEPS.need(11)], [1, 2, None])
        self.assertEqual(found(tree, STEPS, ROOMS, 6), None)
        self.assertEqual(looked_at(tree, STEPS, ROOMS, 6), [0])
        self.assertEqual(behind(tree, STEPS, ROOMS, 6).told, [1, 1, 1, 1, 1, 1, 0])
        self.assertEqual([found(tree, STEPS, ROOMS, 3), tree.missed()], [0, []])

    def test_going_to_its_end(self):
        tree = Tree(3, STALE)
        looked = [("node", 1), ("node", 2), ("node", 4), ("look", 0)]
        self.assertEqual(list(going(tree, STEPS, ROOMS, 6)), looked + [("lower", 4, 1), ("nothing",)])
        self.assertEqual(list(going(tree, STEPS, ROOMS, 3)), looked + [("found", 0)])
        self.assertEqual(list(going(tree, STEPS, ROOMS, 10)), [("nothing",)])
        self.assertEqual(list(going(tree, STEPS, ROOMS, 11)), [("nothing",)])

    def test_led_astray_it_lowers_and_begins_anew(self):
        tree = Tree(1, [1, 1, 1, 0, 0, 0, 1])
        parts = [("node", 1), ("node", 2), ("lower", 2, 0), ("node", 1), ("node", 3), ("node", 7), ("look", 3)]
        self.assertEqual(list(going(tree, Steps(1, [1]), [1, 1, 1, 1], 1)), parts + [("found", 3)])
        self.assertEqual(behind(tree, Steps(1, [1]), [1, 1, 1, 1], 1).told, [1, 0, 1, 0, 0, 0, 1])
        parts += [("lower", 7, 0), ("nothing",)]
        self.assertEqual(list(going(tree, Steps(1, [1]), [1, 1, 1, 0], 1)), parts)
        self.assertEqual(out_of_sight(tree, Steps(1, [1]), [1, 1, 1, 0], 1), [0, 1, 2])

    def test_an_inner_node_is_told_its_greater_also_if_that_is_more_than_nothing(self):
        tree = Tree(3, [3, 3, 0, 1, 2, 0, 0])
        parts = [("node", 1), ("node", 2), ("lower", 2, 2), ("nothing",)]
        self.assertEqual(list(going(tree, STEPS, ROOMS, 9)), parts)
        self.assertEqual(search_row(tree, STEPS, ROOMS, 9), [(2, 2), (1, 2)])
        self.assertEqual(search_row(tree, STEPS, ROOMS, 9, above=True), [(1, 2), (2, 2)])

    def test_rows_of_several_lowerings(self):
        tree = Tree.flat(3, 4, 3)
        row = [(4, 1), (5, 2), (2, 2), (6, 2)]
        self.assertEqual(search_row(tree, STEPS, ROOMS, 10), row)
        self.assertEqual(search_row(tree, STEPS, ROOMS, 10, above=False), row)
        self.assertEqual(search_row(tree, STEPS, ROOMS, 10, above=True), [(4, 1), (2, 2), (5, 2), (6, 2)])
        self.assertEqual(looked_at(tree, STEPS, ROOMS, 10), [0, 1, 2, 3])
        self.assertEqual(found(tree, STEPS, ROOMS, 10), 3)

    def test_a_size_without_a_need(self):
        tree = Tree.flat(3, 4, 3)
        for size, rooms in itertools.product((11, 12), (ROOMS, [12] * 4, (0, 0, 0, 12))):
            given = (tree, STEPS, rooms, size)
            self.assertEqual([good_pages(*given), looked_at(*given), out_of_sight(*given)], [[], [], []])
            self.assertIsNone(found(*given))
            self.assertEqual((behind(*given), list(going(*given))), (tree, [("nothing",)]))
            self.assertEqual([search_row(*given), search_row(*given, above=True)], [[], []])

    def test_room_beyond_the_class_is_found_though_the_size_is_less(self):
        # Page 0 is told too much and has room for 5 all the same: its true room decides.
        tree = Tree.flat(3, 2, 3)
        self.assertEqual(found(tree, STEPS, [5, 12], 5), 0)
        self.assertEqual(found(tree, STEPS, [5, 12], 6), 1)

    def test_by_name(self):
        named = {"size": 3, "rooms": ROOMS, "steps": STEPS, "tree": Tree(3, STALE)}
        self.assertEqual([good_pages(**named), found(**named), looked_at(**named)], [[0, 1, 2], 0, [0]])
        self.assertEqual([out_of_sight(**named), behind(**named).told], [[3], STALE])
        self.assertEqual([len(list(going(**named))), search_row(**named, above=True)], [5, []])

    def test_above_is_given_by_name_alone(self):
        self.assertRaises(TypeError, search_row, Tree(3, STALE), STEPS, ROOMS, 3, True)


class Several(Case):
    def test_each_on_the_tree_behind_the_one_ahead(self):
        chance = random.Random(12)
        for tree, steps, rooms in big_cases(82, 5):
            sizes = [chance.choice(sizes_of(steps)) for _ in range(6)]
            told, pages = played.plain(tree), []
            for size in sizes:
                parts, _, told = played.search(told, steps.bounds, rooms, size)
                pages.append(parts[-1][1] if parts[-1] != ("nothing",) else None)
            answer = searches(tree, steps, rooms, sizes)
            self.assertIs(answer.__class__, tuple)
            self.assertEqual((answer[0], answer[1].told), (pages, told[1:]))
            self.assertEqual(searches(tree, steps, rooms, tuple(sizes)), answer)

    def test_no_size_at_all(self):
        for sizes in ([], ()):
            self.assertEqual(searches(Tree(3, STALE), STEPS, ROOMS, sizes), ([], Tree(3, STALE)))

    def test_sizes_alike(self):
        tree = Tree.flat(3, 4, 3)
        behind_all = Tree(3, [3, 2, 3, 1, 2, 2, 3])
        self.assertEqual(searches(tree, STEPS, ROOMS, [10, 10, 3, 12, 3]), ([3, 3, 0, None, 0], behind_all))
        self.assertEqual(searches(sizes=(6, 3), rooms=ROOMS, steps=STEPS, tree=Tree(3, STALE))[0], [None, 0])

    def test_no_sizes(self):
        wrong = [[3, 0], [3, 13], [True], (3, None), [3, 6.0], [[3]], [(3,)], [EqualToAll()], (3, Falling()), STEPS]
        for sizes in NO_ROWS + wrong:
            self.raises(BadArgument, "value", sizes, searches, Tree(3, STALE), STEPS, ROOMS, sizes)

    def test_the_list_of_pages_belongs_to_the_caller(self):
        sizes = [3, 6]
        pages, _ = searches(Tree(3, STALE), STEPS, ROOMS, sizes)
        pages.append(7)
        self.assertEqual((searches(Tree(3, STALE), STEPS, ROOMS, sizes)[0], sizes), ([0, None], [3, 6]))


class Wrong(Case):
    ROWS = (
        ("tree", Tree(3, STALE), BadArgument, "value", NO_OBJECTS),
        ("steps", STEPS, BadArgument, "value", NO_STEPS),
        ("rooms", ROOMS, BadRooms, "value", NO_ROOMS),
    )

    def test_of_one_search(self):
        for call in TELLING:
            self.wrong(call, *self.ROWS, ("size", 3, BadSize, "value", NO_SIZES))

    def test_of_a_row(self):
        size = ("size", 11, BadSize, "value", NO_SIZES)
        self.wrong(search_row, *self.ROWS, size, ("above", False, BadArgument, "value", NO_ANSWERS))

    def test_of_several(self):
        self.wrong(searches, *self.ROWS, ("sizes", [3, 3], BadArgument, "value", NO_ROWS + [[0], (13,), [True]]))

    def test_rooms_up_to_the_greatest_room(self):
        self.assertEqual(found(Tree(3, STALE), STEPS, [12, 0, 0, 12], 6), 0)
        self.assertEqual(found(Tree(3, STALE), STEPS, (0, 0, 0, 12), 12), None)

    def test_going_raises_when_its_first_value_is_asked_for(self):
        for given in [(None, STEPS, ROOMS, 3), (Tree(3, STALE), STEPS, None, 3), (Tree(3, STALE), STEPS, ROOMS, 0)]:
            parts = going(*given)
            with self.assertRaises(ValueError):
                next(parts)


class Values(Case):
    def test_nothing_given_is_changed(self):
        tree, rooms, sizes = Tree.flat(3, 4, 3), list(ROOMS), [10, 6]
        for call in TELLING:
            call(tree, STEPS, rooms, 10)
        searches(tree, STEPS, rooms, sizes)
        self.assertEqual((tree.told, rooms, sizes, STEPS.bounds), ([3] * 7, ROOMS, [10, 6], [3, 6, 10]))

    def test_returned_lists_belong_to_the_caller(self):
        tree = Tree.flat(3, 4, 3)
        for call in (good_pages, looked_at, out_of_sight, search_row):
            for size in (6, 10, 12):
                first = call(tree, STEPS, ROOMS, size)
                told = list(first)
                self.assertIs(first.__class__, list)
                first.append(9)
                self.assertEqual(call(tree, STEPS, ROOMS, size), told)

    def test_rooms_changed_while_it_goes(self):
        rooms = [4, 6, 9, 10]
        parts = []
        for part in going(Tree.flat(3, 4, 3), STEPS, rooms, 10):
            parts.append(part)
            rooms[:] = [12, 12, 12, 12]
        self.assertEqual(parts, list(going(Tree.flat(3, 4, 3), STEPS, ROOMS, 10)))

    def test_rooms_are_read_when_the_first_value_is_asked_for(self):
        rooms = [0, 0, 0]
        parts = going(Tree.flat(3, 4, 3), STEPS, rooms, 10)
        rooms[:] = [12, 0, 0, 0]
        self.assertEqual(list(parts)[-1], ("found", 0))

    def test_quick_for_the_greatest(self):
        # Every node leads astray: the search lowers them all, one by one.
        steps = Steps(1000, [1, 2, 3, 4, 5, 6, 7, 8])
        tree = Tree.flat(8, 32, 8)
        pages, now = searches(tree, steps, [0] * 32, [8, 7, 6, 5, 4, 3, 2, 1] * 20)
        self.assertEqual((pages, now), ([None] * 160, Tree.flat(8, 32, 0)))
        inner = Tree(8, [8] * 31 + [0] * 32)
        self.assertEqual(searches(inner, steps, [1000] * 32, [1] * 100), ([None] * 100, Tree.flat(8, 32, 0)))


if __name__ == "__main__":
    unittest.main()
