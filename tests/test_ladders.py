"""Promises 18 and 1 (d): ladders, fewest bounds and their papers; with promise 2, as far as it speaks of them."""

import itertools
import time
import unittest

from roomtold.best import cutting, least_greatest
from roomtold.errors import BadArgument, BadNumber
from roomtold.ladders import fewest_bounds, fewest_paper, ladder, shows_fewest, sum_ladder
from roomtold.sums import least_sum
from tests.checks import Case
from tests.odd import NO_INTEGERS, NO_OBJECTS, EqualToAll, Falling
from tests.test_best import NO_WORST, THIRTY, served, some_sizes, told_bounds
from tests.test_losses import NO_SIZES, NO_WEIGHTS
from tests.test_sums import EXAMPLE, all_weights, sum_by

NO_NUMBERS = [0, -1, 10, 10 ** 100, -10 ** 100] + NO_INTEGERS
NINE = [1, 3, 5, 7, 9, 11, 13, 15, 17]
# (sizes, loss, number, right paper) by which the judge is bent.
PAPERS = [
    ([2, 3, 9, 10], 1, 2, [3, 10]), ([2, 3, 9, 10], 1, 2, [2, 9]), ([10, 3, 9, 2], 0, 4, [2, 3, 9, 10]),
    ((2, 3, 9, 10), 1, 1, [9]), ([2, 3, 9, 10], 1000, 1, [2]), (NINE, 1, 9, NINE), (NINE, 3, 5, [1, 5, 9, 13, 17]),
    ([1], 0, 1, [1]),
]


def fewest(sizes, worst):
    """The fewest told sizes that serve all with at most this loss; more than eight are none."""
    for many in range(1, 9):
        for bounds in told_bounds(sizes, many):
            if served(bounds, sizes) <= worst:
                return many
    return None


class Ladders(Case):
    def test_against_all_lists_of_told_sizes(self):
        for sizes in list(some_sizes(181, 40, 14)) + list(some_sizes(182, 20, 1000)):
            told = [min(served(bounds, sizes) for bounds in told_bounds(sizes, many)) for many in range(1, 9)]
            self.assertEqual((ladder(sizes), ladder(tuple(sizes))), (told, told))
            self.goes_down_to_0(told, len(sizes))
        for weights in all_weights():
            told = [min(sum_by(bounds, weights) for bounds in told_bounds(weights, many)) for many in range(1, 9)]
            self.assertEqual(sum_ladder(weights), told)

    def goes_down_to_0(self, told, many):
        self.assertEqual(told, sorted(told, reverse=True))
        for number, one in enumerate(told, 1):
            self.assertIs(one == 0, number >= many)

    def test_as_many_told_sizes_as_bounds_more_and_fewer(self):
        for many in range(1, 31):
            sizes = [1000 - 33 * at for at in range(many)]
            told = ladder(sizes)
            self.assertEqual((told.__class__, len(told)), (list, 8))
            self.goes_down_to_0(told, many)
            sums = sum_ladder({size: 1 for size in sizes})
            self.assertEqual((sums.__class__, len(sums)), (list, 8))
            self.goes_down_to_0(sums, many)

    def test_by_hand(self):
        self.assertEqual(ladder(sizes=[2, 3, 9, 10]), [8, 1, 1, 0, 0, 0, 0, 0])
        self.assertEqual(sum_ladder(weights=EXAMPLE), [21, 3, 1, 0, 0, 0, 0, 0])
        self.assertEqual([ladder([7]), sum_ladder({7: 1000})], [[0] * 8, [0] * 8])
        self.assertEqual(sum_ladder({1: 0, 5: 0, 9: 1000}), [0] * 8)

    def test_the_greatest_quickly(self):
        begin = time.perf_counter()
        for sizes in THIRTY:
            self.assertEqual(ladder(sizes), [least_greatest(sizes, many) for many in range(1, 9)])
            weights = {size: 1000 for size in sizes}
            self.assertEqual(sum_ladder(weights), [least_sum(weights, many) for many in range(1, 9)])
        self.assertLess(time.perf_counter() - begin, 10)

    def test_wrong(self):
        self.wrong(ladder, ("sizes", [1], BadArgument, "value", NO_SIZES))
        self.wrong(sum_ladder, ("weights", {1: 1}, BadArgument, "value", NO_WEIGHTS))

    def test_nothing_given_is_changed_and_what_is_told_belongs_to_the_caller(self):
        sizes, weights = [10, 2, 9, 3], {7: 1, 2: 1}
        for _ in range(2):
            told, sums = ladder(sizes), sum_ladder(weights)
            self.assertEqual((told, sums), ([8, 1, 1, 0, 0, 0, 0, 0], [5, 0, 0, 0, 0, 0, 0, 0]))
            told.clear()
            sums.clear()
        self.assertEqual((sizes, list(weights.items())), ([10, 2, 9, 3], [(7, 1), (2, 1)]))


class Fewest(Case):
    def test_against_all_lists_of_told_sizes(self):
        for sizes in list(some_sizes(183, 40, 14)) + [NINE, NINE[1:], NINE + [19]]:
            for worst in list(range(15)) + [1000]:
                self.assertEqual(fewest_bounds(sizes, worst), fewest(sizes, worst))

    def test_eight_nine_and_each_loss(self):
        self.assertEqual([fewest_bounds(NINE[1:], 1), fewest_bounds(NINE, 1), fewest_bounds(NINE, 2)], [8, None, 5])
        for sizes in THIRTY:
            for worst in range(0, 1001, 13):
                many = len(cutting(sizes, worst))
                self.assertEqual(fewest_bounds(tuple(sizes), worst), None if many > 8 else many)
        self.assertEqual(fewest_bounds(worst=1000, sizes=[1, 1000]), 1)
        self.assertEqual([fewest_bounds([1, 1000], 998), fewest_bounds([1, 1000], 999)], [2, 1])

    def test_papers_for_the_number_and_for_nine(self):
        for sizes in list(some_sizes(184, 60, 14)) + THIRTY + [NINE, NINE[1:], NINE + [19]]:
            for worst in (0, 1, 2, 3, 5, 8, 33, 34, 100, 999, 1000):
                number = fewest_bounds(sizes, worst) or 9
                paper = fewest_paper(sizes, worst)
                self.assertEqual((paper.__class__, len(paper)), (list, number))
                self.assertTrue(set(paper) <= set(sizes))
                self.assertTrue(all(b - a > worst for a, b in zip(paper, paper[1:])))
                for other in range(1, 10):
                    self.assertIs(shows_fewest(sizes, worst, other, paper), other == number)

    def test_wrong(self):
        for call in (fewest_bounds, fewest_paper):
            self.wrong(call, ("sizes", [4, 1], BadArgument, "value", NO_SIZES),
                       ("worst", 3, BadNumber, "number", NO_WORST))
        for paper in ([4], None, Falling()):
            self.wrong(lambda sizes, worst, number: shows_fewest(sizes, worst, number, paper),
                       ("sizes", [4, 1], BadArgument, "value", NO_SIZES),
                       ("worst", 3, BadNumber, "number", NO_WORST), ("number", 1, BadNumber, "number", NO_NUMBERS))

    def test_by_name_and_nothing_given_is_changed(self):
        sizes = [10, 2, 9, 3]
        for _ in range(2):
            paper = fewest_paper(worst=1, sizes=sizes)
            self.says_true(shows_fewest(paper=paper, number=2, worst=1, sizes=sizes))
            self.assertEqual((sizes, paper), ([10, 2, 9, 3], [3, 10]))
            paper.clear()


class Judge(Case):
    def test_right_papers(self):
        for sizes, worst, number, paper in PAPERS:
            self.says_true(shows_fewest(sizes, worst, number, paper))
            for other in range(1, 10):
                self.assertIs(shows_fewest(sizes, worst, other, paper), other == number)

    def test_right_papers_bent_in_each_part(self):
        for sizes, worst, number, paper in PAPERS:
            odd = [tuple(paper), set(paper), str(paper), None, 0, iter(paper), EqualToAll(), Falling(), [], [paper],
                   {at: size for at, size in enumerate(paper)}, paper + [max(sizes)], paper[:-1], paper + paper]
            if len(paper) > 1:
                odd += [paper[::-1], [paper[1]] + paper[1:]]
            for at, size in enumerate(paper):
                for other in [float(size), str(size), None, [size], EqualToAll(), Falling(), size + 10 ** 6, -size, 0,
                              max(sizes) + 1]:
                    odd.append(paper[:at] + [other] + paper[at + 1:])
                if size == 1:
                    odd.append(paper[:at] + [True] + paper[at + 1:])
            for value in odd:
                self.says_false(shows_fewest(sizes, worst, number, value))

    def test_apart_by_no_more_than_the_loss(self):
        self.says_false(shows_fewest([2, 3, 9, 10], 1, 2, [2, 3]))
        self.says_true(shows_fewest([2, 3, 9, 10], 0, 2, [2, 3]))
        self.says_false(shows_fewest([1, 1000], 999, 2, [1, 1000]))
        self.says_true(shows_fewest([1, 1000], 998, 2, [1, 1000]))

    def test_all_lists_of_small_sizes(self):
        for sizes, worst, number in itertools.product(([1, 2, 4, 5], [2, 6, 7]), range(4), range(1, 5)):
            for length in range(4):
                for paper in itertools.product(range(1, 8), repeat=length):
                    gaps = all(b - a > worst for a, b in zip(paper, paper[1:]))
                    right = set(paper) <= set(sizes) and gaps and length == number
                    self.assertIs(shows_fewest(sizes, worst, number, list(paper)), right)

    def test_values_of_any_other_form(self):
        for value in NO_OBJECTS + ["paper", shows_fewest, [None], [[3]], [NINE]]:
            self.says_false(shows_fewest([2, 3, 9, 10], 1, 1, value))


if __name__ == "__main__":
    unittest.main()
