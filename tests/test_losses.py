"""Promises 15 and 1 (c): losses and idle room; with promise 2, as far as it speaks of them."""

import itertools
import random
import unittest

from roomtold.errors import BadArgument, BadPage, BadRooms, BadSize
from roomtold.losses import greatest_loss, idle_room, idle_tree, is_idle, loss, losses, sum_of_losses
from roomtold.search import found
from roomtold.steps import Steps
from roomtold.trees import Tree
from tests import played
from tests.checks import Case
from tests.odd import NO_INTEGERS, NO_OBJECTS, NO_ROWS, EqualToAll, Falling
from tests.samples import PAGES, some_steps
from tests.test_search import ROOMS, STEPS

NO_STEPS = NO_OBJECTS + [[3, 6, 10], Tree(3, [0, 0, 0]), Steps]
# No told sizes, whatever the greatest room.
NO_SIZES = NO_ROWS + [
    [], (), [0], [1001], [-1], [1, 2, 0], [1, 2, 1001], [2, 2], (1, 5, 1), [10 ** 100], [True], [2, True], (False, 1),
    [1, 1.0], [2.0], ["1"], [None], [[1]], [EqualToAll()], [Falling()], list(range(1, 32)), tuple(range(970, 1001)),
]
NO_WEIGHT_VALUES = [-1, 1001, 10 ** 100] + NO_INTEGERS
NO_WEIGHTS = [value for value in NO_OBJECTS if not isinstance(value, dict)] + [
    {}, [1, 2], (1,), [(1, 2)], {0: 1}, {1001: 1}, {-1: 1}, {True: 1}, {2: 1, False: 1}, {1.0: 1}, {"1": 1}, {None: 1},
    {(1,): 1}, {b"1": 1}, {object(): 1}, {2: 1, 10 ** 100: 1}, {size: 1 for size in range(1, 32)}, Steps,
] + [{3: weight} for weight in NO_WEIGHT_VALUES] + [{3: 1, 5: weight, 7: 1} for weight in NO_WEIGHT_VALUES]


def needs(steps, size):
    return [bound for bound in steps.bounds if bound >= size][:1]


class Losses(Case):
    def test_each_size_of_small_steps(self):
        for most in range(1, 8):
            for many in range(1, most + 1):
                for bounds in itertools.combinations(range(1, most + 1), many):
                    steps = Steps(most, bounds)
                    for size in range(1, most + 1):
                        bound = needs(steps, size)
                        self.assertEqual(loss(steps, size), bound[0] - size if bound else None)

    def test_by_hand(self):
        self.assertEqual([loss(STEPS, size) for size in range(1, 13)], [2, 1, 0, 2, 1, 0, 3, 2, 1, 0, None, None])
        self.assertEqual(loss(size=1, steps=Steps(1000, [1000])), 999)
        self.assertEqual(losses(STEPS, [7, 1, 12, 10, 4]), {1: 2, 4: 2, 7: 3, 10: 0, 12: None})
        self.assertEqual([greatest_loss(STEPS, [10, 6, 3]), greatest_loss(STEPS, (1, 7, 9))], [0, 3])
        self.assertIsNone(greatest_loss(STEPS, [1, 11]))
        self.assertEqual(sum_of_losses(STEPS, {7: 10, 1: 1000, 10: 1000, 9: 0}), 2030)
        self.assertEqual([sum_of_losses(STEPS, {7: 0, 1: 0}), sum_of_losses(STEPS, {3: 5, 6: 7})], [0, 0])
        # A size that is not served counts, whatever its weight.
        self.assertIsNone(sum_of_losses(STEPS, {1: 1, 11: 0}))

    def test_against_each_size_by_itself(self):
        chance = random.Random(151)
        for many in list(range(1, 31)) * 4:
            most = chance.choice([40, 1000])
            steps = some_steps(chance, chance.randint(1, 8), most)
            sizes = chance.sample(range(1, most + 1), many)
            weights = {size: chance.choice([0, 1, 7, 1000]) for size in sizes}
            told = {size: needs(steps, size)[0] - size if needs(steps, size) else None for size in sorted(sizes)}
            for given in (sizes, tuple(sizes), sorted(sizes), sorted(sizes)[::-1]):
                answer = losses(steps, given)
                self.assertEqual((list(answer.items()), answer.__class__), (list(told.items()), dict))
                if None in told.values():
                    self.assertIsNone(greatest_loss(steps, given))
                else:
                    self.assertEqual(greatest_loss(steps, given), max(told.values()))
            whole = None if None in told.values() else sum(told[size] * weights[size] for size in sizes)
            self.assertEqual(sum_of_losses(steps, weights), whole)

    def test_by_name(self):
        self.assertEqual(loss(size=4, steps=STEPS), 2)
        self.assertEqual(losses(sizes=(4,), steps=STEPS), {4: 2})
        self.assertEqual(greatest_loss(sizes=[4], steps=STEPS), 2)
        self.assertEqual(sum_of_losses(weights={4: 3}, steps=STEPS), 6)

    def test_wrong(self):
        self.wrong(loss, ("steps", STEPS, BadArgument, "value", NO_STEPS),
                   ("size", 4, BadSize, "value", [0, -1, 13, 10 ** 100] + NO_INTEGERS))
        for call in (losses, greatest_loss):
            self.wrong(call, ("steps", STEPS, BadArgument, "value", NO_STEPS),
                       ("sizes", [4], BadArgument, "value", NO_SIZES + [[13], (1, 4, 13), list(range(1, 14))]))
        self.wrong(sum_of_losses, ("steps", STEPS, BadArgument, "value", NO_STEPS),
                   ("weights", {4: 1}, BadArgument, "value", NO_WEIGHTS + [{13: 1}, {13: 0, 1: 1}, {1: 1, 1000: 1}]))

    def test_the_edges_of_sizes_and_weights(self):
        steps = Steps(1000, [1000])
        thirty = list(range(971, 1001))
        self.assertEqual([len(losses(steps, thirty)), greatest_loss(steps, thirty)], [30, 29])
        self.assertEqual(sum_of_losses(steps, {size: 1000 for size in thirty}), 435000)
        more = [1] + thirty
        for call in (losses, greatest_loss):
            self.raises(BadArgument, "value", more, call, steps, more)
        more = {size: 1 for size in more}
        self.raises(BadArgument, "value", more, sum_of_losses, steps, more)
        self.assertEqual(losses(steps, (1,)), {1: 999})
        self.assertEqual(losses(steps, [1000]), {1000: 0})
        for weight in (0, 1000):
            self.assertEqual(sum_of_losses(steps, {1: weight}), 999 * weight)

    def test_nothing_given_is_changed_and_what_is_told_belongs_to_the_caller(self):
        sizes, weights = [7, 1, 4], {7: 1, 1: 2}
        first = losses(STEPS, sizes)
        first[7] = None
        del first[1]
        for _ in range(2):
            self.assertEqual(losses(STEPS, sizes), {1: 2, 4: 2, 7: 3})
            self.assertEqual((greatest_loss(STEPS, sizes), sum_of_losses(STEPS, weights)), (3, 7))
        self.assertEqual((sizes, list(weights.items()), STEPS.bounds), ([7, 1, 4], [(7, 1), (1, 2)], [3, 6, 10]))


class Idle(Case):
    def test_by_hand(self):
        self.assertEqual([idle_room(STEPS, size) for size in (1, 3, 4, 6, 7, 10, 11, 12)], [2, 2, 5, 5, 9, 9, 12, 12])
        self.assertEqual([idle_room(size=1, steps=Steps(1, [1])), idle_room(Steps(1000, [1]), 2)], [0, 1000])
        self.says_false(is_idle(STEPS, ROOMS, 4))
        self.says_true(is_idle(STEPS, (4, 5, 5, 5), 4))
        self.says_false(is_idle(STEPS, [4, 5, 5, 6], 4))
        self.says_true(is_idle(size=11, rooms=[12] * 4, steps=STEPS))
        self.assertEqual(idle_tree(STEPS, 4, 2), (Tree(3, [1, 1, 1]), [5, 5]))
        self.assertEqual(idle_tree(pages=2, size=12, steps=STEPS), (Tree(3, [3, 3, 3]), [12, 12]))

    def test_against_searches_through_all_rooms(self):
        for most in range(1, 5):
            for many in range(1, most + 1):
                for bounds in itertools.combinations(range(1, most + 1), many):
                    steps = Steps(most, bounds)
                    for size, rooms in itertools.product(range(1, most + 1),
                                                         itertools.product(range(most + 1), repeat=2)):
                        told = played.exact(steps.bounds, rooms)
                        nothing = played.search(told, steps.bounds, rooms, size)[0][-1] == ("nothing",)
                        self.assertIs(is_idle(steps, rooms, size), nothing)
                        self.assertIs(max(rooms) <= idle_room(steps, size), nothing)

    def test_idle_trees_and_trees_with_one_room_more(self):
        chance = random.Random(152)
        for pages, classes in itertools.product(PAGES, range(1, 9)):
            steps = some_steps(chance, classes, chance.choice([8, 20, 1000]))
            for size in {1, steps.most, chance.randint(1, steps.most), *steps.bounds}:
                tree, rooms = idle_tree(steps, size, pages)
                self.assertEqual((tree, rooms), (Tree.exact(steps, rooms), [idle_room(steps, size)] * pages))
                self.assertIsNone(found(tree, steps, rooms, size))
                self.says_true(is_idle(steps, rooms, size))
                if rooms[0] < steps.most:
                    page = chance.randrange(pages)
                    rooms[page] += 1
                    self.says_false(is_idle(steps, rooms, size))
                    self.assertEqual(found(Tree.exact(steps, rooms), steps, rooms, size), page)
                else:
                    self.assertIsNone(steps.need(size))

    def test_the_rooms_belong_to_the_caller(self):
        answer = idle_tree(STEPS, 4, 2)
        tree, rooms = answer
        self.assertEqual((answer.__class__, rooms.__class__), (tuple, list))
        rooms[0] = 12
        self.assertEqual((tree.told, idle_tree(STEPS, 4, 2)), ([1, 1, 1], (tree, [5, 5])))
        rooms = [4, 5]
        is_idle(STEPS, rooms, 4)
        self.assertEqual(rooms, [4, 5])

    def test_wrong(self):
        steps = ("steps", STEPS, BadArgument, "value", NO_STEPS)
        size = ("size", 4, BadSize, "value", [0, -1, 13, 10 ** 100] + NO_INTEGERS)
        self.wrong(idle_room, steps, size)
        rooms = NO_ROWS + [[], [4], [4, 5, 6], [4] * 33, [4] * 64, [4, 13], (-1, 4), [4, True], [False, 4], [4, 5.0],
                           [4, None], [EqualToAll(), 4], [4, Falling()], STEPS]
        self.wrong(is_idle, steps, ("rooms", [4, 5], BadRooms, "value", rooms), size)
        self.wrong(idle_tree, steps, size,
                   ("pages", 4, BadPage, "number", [0, 1, 3, 5, 31, 33, 64, -2, 10 ** 100] + NO_INTEGERS))


if __name__ == "__main__":
    unittest.main()
