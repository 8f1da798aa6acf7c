"""Promises 17 and 1 (d): best steps by the sum of losses; with promise 2, as far as it speaks of them."""

import itertools
import random
import time
import unittest

from roomtold.errors import BadArgument, BadNumber
from roomtold.losses import sum_of_losses
from roomtold.steps import Steps
from roomtold.sums import best_by_sum, least_sum, shows_table, sum_table
from tests.checks import Case
from tests.odd import NO_OBJECTS, EqualToAll, Falling
from tests.test_best import NO_MANY, THIRTY, told_bounds
from tests.test_losses import NO_WEIGHTS

EXAMPLE = {2: 1, 4: 5, 6: 1, 7: 1}
TABLE = [[0, 0, 0], [None, 0, 0], [None, 2, 0], [None, 14, 2], [None, 21, 3]]


def sum_by(bounds, weights):
    return sum(weight * min(bound - size for bound in bounds if bound >= size) for size, weight in weights.items())


def some_weights(seed, many, most, worth):
    chance = random.Random(seed)
    for _ in range(many):
        sizes = chance.sample(range(1, most + 1), chance.randint(1, 7))
        yield {size: chance.choice(worth) for size in sizes}


def all_weights():
    """Weights with many ties, and with few."""
    yield from some_weights(171, 60, 9, [0, 1])
    yield from some_weights(172, 40, 9, [0])
    yield from some_weights(173, 40, 9, [1, 1, 2])
    yield from some_weights(174, 40, 1000, [0, 1, 500, 1000])


class Tables(Case):
    def test_entry_by_entry_against_all_lists_of_told_sizes(self):
        for weights in all_weights():
            sizes = sorted(weights)
            for many in (1, 2, 3, 8):
                table = sum_table(weights, many)
                self.assertEqual((table.__class__, len(table)), (list, len(sizes) + 1))
                for i, row in enumerate(table):
                    self.assertEqual((row.__class__, len(row)), (list, many + 1))
                    first = {size: weights[size] for size in sizes[:i]}
                    for k, entry in enumerate(row):
                        if i == 0 or k == 0:
                            self.assertIs(entry, 0 if i == 0 else None)
                        else:
                            self.assertEqual(entry, min(sum_by(bounds, first) for bounds in told_bounds(first, k)))
                self.assertEqual(least_sum(weights, many), table[-1][-1])
                self.says_true(shows_table(weights, many, table))

    def test_by_the_recurrence(self):
        for sizes, many in itertools.product(THIRTY, (1, 3, 8)):
            weights = {size: size * 7 % 1001 for size in sizes}
            self.assertEqual(sum_table(weights, many), self.recurrence(sorted(weights), weights, many))

    @staticmethod
    def recurrence(sizes, weights, many):
        table = [[0] * (many + 1)]
        for i in range(1, len(sizes) + 1):
            row = [None]
            for k in range(1, many + 1):
                row.append(min(table[h][k - 1] + sum(weights[size] * (sizes[i - 1] - size) for size in sizes[h:i])
                               for h in range(i) if table[h][k - 1] is not None))
            table.append(row)
        return table

    def test_by_hand(self):
        self.assertEqual(sum_table(EXAMPLE, 2), TABLE)
        self.assertEqual([least_sum(EXAMPLE, many) for many in range(1, 9)], [21, 3, 1, 0, 0, 0, 0, 0])
        self.assertEqual(sum_table({5: 0}, 1), [[0, 0], [None, 0]])
        self.assertEqual(sum_table({1: 1000, 1000: 3}, 1), [[0, 0], [None, 0], [None, 999000]])

    def test_no_steps_of_any_bounds_have_less(self):
        for weights in some_weights(175, 30, 8, [0, 1, 3]):
            for many in (1, 2, 3):
                told = [sum_of_losses(Steps(8, bounds), weights) for number in range(1, many + 1)
                        for bounds in itertools.combinations(range(1, 9), number)]
                self.assertEqual(least_sum(weights, many), min(one for one in told if one is not None))


class Best(Case):
    def test_against_all_lists_of_told_sizes(self):
        for weights in all_weights():
            for many in range(1, 9):
                told = min((sum_by(bounds, weights), len(bounds), bounds) for bounds in told_bounds(weights, many))
                bounds = best_by_sum(weights, many)
                self.assertEqual((least_sum(weights, many), len(bounds), tuple(bounds)), told)
                self.assertEqual(bounds.__class__, list)
                self.assertEqual(sum_of_losses(Steps(1000, bounds), weights), told[0])

    def test_several_with_the_least_sum(self):
        self.assertEqual(best_by_sum(EXAMPLE, 2), [4, 7])
        self.assertEqual([best_by_sum({1: 1, 2: 1, 3: 1}, many) for many in range(1, 5)],
                         [[3], [1, 3], [1, 2, 3], [1, 2, 3]])
        self.assertEqual(best_by_sum({1: 0, 2: 1, 3: 0, 4: 1, 5: 0}, 2), [2, 5])
        self.assertEqual(best_by_sum({1: 1, 2: 1, 4: 1, 5: 1, 9: 0}, 3), [2, 5, 9])

    def test_fewer_bounds_than_the_number_have_it(self):
        self.assertEqual(best_by_sum({4: 0, 5: 0, 9: 7}, 8), [9])
        self.assertEqual(best_by_sum({4: 1, 5: 0, 9: 7}, 8), [4, 9])
        self.assertEqual(best_by_sum({4: 1, 5: 1, 9: 0}, 8), [4, 5, 9])
        self.assertEqual(best_by_sum({7: 1000}, 8), [7])

    def test_the_greatest_quickly(self):
        begin = time.perf_counter()
        for sizes, many in itertools.product(THIRTY, range(1, 9)):
            for weights in ({size: 1000 for size in sizes}, {size: size % 3 for size in sizes}):
                bounds = best_by_sum(weights, many)
                self.assertEqual(sum_of_losses(Steps(1000, bounds), weights), least_sum(weights, many))
                self.says_true(shows_table(weights, many, sum_table(weights, many)))
        self.assertLess(time.perf_counter() - begin, 20)


class Judge(Case):
    def test_right(self):
        self.says_true(shows_table(EXAMPLE, 2, TABLE))
        self.says_true(shows_table(table=sum_table(EXAMPLE, 5), many=5, weights=EXAMPLE))
        self.says_false(shows_table(EXAMPLE, 1, TABLE))
        self.says_false(shows_table(EXAMPLE, 3, TABLE))
        self.says_false(shows_table({2: 1, 4: 5, 6: 1, 7: 2}, 2, [[0, 0, 0]] + TABLE[2:]))

    def test_one_entry_changed(self):
        for i, row in enumerate(TABLE):
            for k, entry in enumerate(row):
                odd = [EqualToAll(), Falling(), "0", [], [entry], -1, 10 ** 100, 1000]
                if entry is None:
                    odd += [0, False, 1, ""]
                else:
                    odd += [entry + 1, entry - 1, None, float(entry), str(entry), entry == 1, entry != 0]
                for other in odd:
                    table = [list(one) for one in TABLE]
                    table[i][k] = other
                    self.says_false(shows_table(EXAMPLE, 2, table))

    def test_true_in_the_place_of_1(self):
        weights = {1: 1, 2: 1}
        self.says_true(shows_table(weights, 1, [[0, 0], [None, 0], [None, 1]]))
        self.says_false(shows_table(weights, 1, [[0, 0], [None, 0], [None, True]]))
        self.says_false(shows_table(weights, 1, [[0, 0], [None, False], [None, 1]]))
        self.says_false(shows_table(weights, 1, [[0, 0], [0, 0], [None, 1]]))

    def test_rows_and_places_too_few_or_too_many(self):
        for table in (TABLE[:-1], TABLE[1:], TABLE + [TABLE[-1]], TABLE + [[]], [], [TABLE], TABLE[::-1]):
            self.says_false(shows_table(EXAMPLE, 2, table))
        for at, row in enumerate(TABLE):
            for other in (row[:-1], row[1:], row + [0], row + [None], [], row[::-1] + [1]):
                self.says_false(shows_table(EXAMPLE, 2, TABLE[:at] + [other] + TABLE[at + 1:]))

    def test_tuples_in_the_place_of_lists_and_other_forms(self):
        self.says_false(shows_table(EXAMPLE, 2, tuple(TABLE)))
        for at, row in enumerate(TABLE):
            for other in [tuple(row), None, 0, str(row), {k: one for k, one in enumerate(row)}, EqualToAll(), Falling(),
                          iter(row)]:
                self.says_false(shows_table(EXAMPLE, 2, TABLE[:at] + [other] + TABLE[at + 1:]))
        for value in NO_OBJECTS + [{at: row for at, row in enumerate(TABLE)}, iter(TABLE), "table", shows_table]:
            self.says_false(shows_table(EXAMPLE, 2, value))


class Values(Case):
    def test_wrong(self):
        for call in (sum_table, least_sum, best_by_sum):
            self.wrong(call, ("weights", EXAMPLE, BadArgument, "value", NO_WEIGHTS),
                       ("many", 2, BadNumber, "number", NO_MANY))
        for table in (TABLE, None, Falling()):
            self.wrong(lambda weights, many: shows_table(weights, many, table),
                       ("weights", EXAMPLE, BadArgument, "value", NO_WEIGHTS), ("many", 2, BadNumber, "number", NO_MANY))

    def test_nothing_given_is_changed_and_what_is_told_belongs_to_the_caller(self):
        weights, given = {7: 1, 2: 1, 6: 1, 4: 5}, [list(row) for row in TABLE]
        for _ in range(2):
            table, bounds = sum_table(weights=weights, many=2), best_by_sum(many=2, weights=weights)
            self.assertEqual((table, bounds, least_sum(many=2, weights=weights)), (TABLE, [4, 7], 3))
            table[1].clear()
            table[0][0] = 5
            table.clear()
            bounds.clear()
            self.says_true(shows_table(weights, 2, given))
        self.assertEqual((list(weights.items()), given), ([(7, 1), (2, 1), (6, 1), (4, 5)], TABLE))
        # The rows are lists of their own.
        table = sum_table({3: 0, 4: 0}, 2)
        self.assertEqual(len({id(row) for row in table}), 3)


if __name__ == "__main__":
    unittest.main()
