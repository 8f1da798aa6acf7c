"""Promises 16 and 1 (d): cuttings, best steps and least papers; with promise 2, as far as it speaks of them."""

import itertools
import random
import time
import unittest

from roomtold.best import best_steps, cutting, least_greatest, least_paper, shows_least
from roomtold.errors import BadArgument, BadNumber
from roomtold.losses import greatest_loss
from roomtold.steps import Steps
from tests.checks import Case
from tests.odd import NO_INTEGERS, NO_OBJECTS, EqualToAll, Falling
from tests.test_losses import NO_SIZES

NO_MANY = [0, -1, 9, 10 ** 100] + NO_INTEGERS
NO_WORST = [-1, 1001, 10 ** 100] + NO_INTEGERS
THIRTY = [
    list(range(1, 31)), list(range(971, 1001)), [1 + 34 * at for at in range(29)] + [1000], list(range(1, 1001, 34)),
    random.Random(160).sample(range(1, 1001), 30), [1, 2, 999, 1000], [1, 1000], [1000], [1],
]
# (sizes, many, right paper) by which the judge is bent.
PAPERS = [
    ([2, 3, 9, 10], 2, (1, [3, 10], [2, 3, 9])), ([10, 2, 9, 3], 2, (1, [3, 10], [3, 9, 10])),
    ((1, 2, 3, 4, 5), 1, (4, [5], [1, 5])), ([1, 2, 3, 4, 5], 2, (2, [3, 5], [1, 3, 5])),
    ([1, 2, 3, 4, 5], 2, (2, [2, 5], [1, 3, 5])), ([1, 3], 2, (0, [1, 3], [])), ([7], 1, (0, [7], [])),
    ([1, 3], 8, (0, [1, 3], [])), ([1, 1000], 1, (999, [1000], [1, 1000])),
]


def served(bounds, sizes):
    """The greatest loss by bounds, or None."""
    told = [[bound - size for bound in bounds if bound >= size] for size in sizes]
    return max(min(row) for row in told) if all(told) else None


def told_bounds(sizes, many):
    """All ascending tuples of at most so many told sizes that serve all of them."""
    for number in range(1, many + 1):
        for bounds in itertools.combinations(sorted(sizes), number):
            if bounds[-1] == max(sizes):
                yield bounds


def some_sizes(seed, many, most):
    chance = random.Random(seed)
    for _ in range(many):
        yield chance.sample(range(1, most + 1), chance.randint(1, 9))


class Cuttings(Case):
    def test_by_hand(self):
        self.assertEqual(cutting([2, 3, 9, 10], 0), [2, 3, 9, 10])
        self.assertEqual(cutting([2, 3, 9, 10], 1), [3, 10])
        self.assertEqual(cutting([2, 3, 9, 10], 6), [3, 10])
        self.assertEqual(cutting([2, 3, 9, 10], 7), [2, 10])
        self.assertEqual(cutting([2, 3, 9, 10], 8), [10])
        self.assertEqual(cutting(worst=1000, sizes=(5,)), [5])
        self.assertEqual(cutting([1000, 1], 998), [1, 1000])
        self.assertEqual(cutting([1000, 1], 999), [1000])

    def test_more_than_eight_bounds(self):
        self.assertEqual(cutting(list(range(1, 31)), 0), list(range(1, 31)))
        self.assertEqual(cutting(list(range(30, 0, -1)), 2), list(range(3, 31, 3)))

    def test_each_loss_against_the_runs(self):
        for sizes in THIRTY:
            for worst in list(range(0, 1001, 7)) + [1, 2, 3, 33, 34, 35, 999, 1000]:
                runs = []
                for size in sorted(sizes, reverse=True):
                    if runs and runs[-1][0] - size <= worst:
                        runs[-1].append(size)
                    else:
                        runs.append([size])
                self.assertEqual(cutting(sizes, worst), sorted(run[0] for run in runs))
                self.assertEqual(cutting(tuple(sizes), worst), sorted(run[0] for run in runs))

    def test_no_steps_with_at_most_this_loss_have_fewer_bounds(self):
        for sizes in some_sizes(161, 60, 12):
            for worst in range(13):
                bounds = cutting(sizes, worst)
                self.assertLessEqual(served(bounds, sizes), worst)
                # By any bounds, not only by told sizes.
                for fewer in itertools.combinations(range(1, 13), len(bounds) - 1) if len(bounds) < 5 else []:
                    other = served(fewer, sizes)
                    self.assertTrue(other is None or other > worst)

    def test_wrong(self):
        self.wrong(cutting, ("sizes", [4, 1], BadArgument, "value", NO_SIZES),
                   ("worst", 3, BadNumber, "number", NO_WORST))
        self.assertEqual([cutting([1000, 1], 0), cutting([1000, 1], 1000)], [[1, 1000], [1000]])


class Least(Case):
    def test_against_all_lists_of_told_sizes(self):
        for sizes in list(some_sizes(162, 80, 14)) + list(some_sizes(163, 40, 1000)):
            for many in range(1, 9):
                least = min(served(bounds, sizes) for bounds in told_bounds(sizes, many))
                self.assertEqual(least_greatest(sizes, many), least)
                bounds = best_steps(sizes, many)
                self.assertEqual(bounds, cutting(sizes, least))
                self.assertEqual((served(bounds, sizes), len(bounds) <= many), (least, True))
                self.assertEqual(greatest_loss(Steps(1000, bounds), sizes), least)
                self.right(sizes, many, least_paper(sizes, many))

    def right(self, sizes, many, paper):
        """By the document's words a paper is a least one."""
        self.assertEqual([part.__class__ for part in paper], [int, list, list])
        self.assertEqual(paper.__class__, tuple)
        worst, bounds, apart = paper
        self.assertEqual(worst, least_greatest(sizes, many))
        self.assertTrue(set(bounds) | set(apart) <= set(sizes))
        self.assertEqual((bounds, apart), (sorted(set(bounds)), sorted(set(apart))))
        self.assertLessEqual(len(bounds), many)
        self.assertLessEqual(served(bounds, sizes), worst)
        if worst == 0:
            self.assertEqual(apart, [])
        else:
            self.assertEqual(len(apart), many + 1)
            self.assertGreaterEqual(min(b - a for a, b in zip(apart, apart[1:])), worst)
        self.says_true(shows_least(sizes, many, paper))

    def test_small_steps_of_any_bounds_are_none_better(self):
        for sizes in some_sizes(164, 40, 9):
            for many in range(1, 4):
                told = [served(bounds, sizes) for number in range(1, many + 1)
                        for bounds in itertools.combinations(range(1, 10), number)]
                self.assertEqual(least_greatest(sizes, many), min(one for one in told if one is not None))

    def test_by_hand(self):
        self.assertEqual([best_steps([2, 3, 9, 10], 2), least_paper([2, 3, 9, 10], 2)], [[3, 10], (1, [3, 10], [2, 3, 9])])
        self.assertEqual([least_greatest([2, 3, 9, 10], many) for many in range(1, 6)], [8, 1, 1, 0, 0])
        self.assertEqual([best_steps([2, 3, 9, 10], many) for many in (1, 3, 4, 8)],
                         [[10], [3, 10], [2, 3, 9, 10], [2, 3, 9, 10]])
        self.assertEqual(least_paper([5], 1), (0, [5], []))
        self.assertEqual(least_paper([1000, 1], 1), (999, [1000], [1, 1000]))

    def test_the_greatest_quickly(self):
        begin = time.perf_counter()
        for sizes, many in itertools.product(THIRTY, range(1, 9)):
            self.right(sizes, many, least_paper(sizes, many))
            self.assertEqual(least_greatest(sizes[::-1], many), least_greatest(tuple(sizes), many))
        self.assertLess(time.perf_counter() - begin, 10)

    def test_by_name_and_told_again(self):
        sizes = [10, 2, 9, 3]
        for _ in range(2):
            self.assertEqual(least_greatest(many=2, sizes=sizes), 1)
            self.assertEqual(best_steps(many=2, sizes=sizes), [3, 10])
            self.assertEqual(least_paper(many=2, sizes=sizes), (1, [3, 10], [2, 3, 9]))
            for row in (best_steps(sizes, 2), cutting(sizes, 1)) + least_paper(sizes, 2)[1:]:
                row.clear()
        self.says_true(shows_least(value=least_paper(sizes, 2), many=2, sizes=sizes))
        self.assertEqual(sizes, [10, 2, 9, 3])

    def test_wrong(self):
        for call in (least_greatest, best_steps, least_paper):
            self.wrong(call, ("sizes", [4, 1], BadArgument, "value", NO_SIZES),
                       ("many", 1, BadNumber, "number", NO_MANY))
        for value in (None, (3, [4], [1, 4]), Falling()):
            self.wrong(lambda sizes, many: shows_least(sizes, many, value),
                       ("sizes", [4, 1], BadArgument, "value", NO_SIZES), ("many", 1, BadNumber, "number", NO_MANY))


class Judge(Case):
    def test_right_papers(self):
        for sizes, many, paper in PAPERS:
            self.says_true(shows_least(sizes, many, paper))
            self.says_true(shows_least(sorted(sizes), many, paper))
            # For another number it is none, but with loss 0 and bounds enough.
            for other in range(1, 9):
                right = paper[0] == 0 and len(paper[1]) <= other
                self.assertIs(shows_least(sizes, other, paper), other == many or right)

    def bent(self, sizes, many, paper):
        worst, bounds, apart = paper
        for other in [worst + 1, worst - 1, -1, 1000, 10 ** 100, bool(worst), float(worst), str(worst), None, [worst],
                      EqualToAll(), Falling()]:
            yield (other, bounds, apart)
        for row, at in ((bounds, 1), (apart, 2)):
            for other in self.bent_rows(row):
                # Whatever loss it is told with.
                for loss in {worst, worst + 1, 0}:
                    bad = [loss, bounds, apart]
                    bad[at] = other
                    yield tuple(bad)
        yield from [list(paper), paper[:2], paper + (0,), (paper,), (bounds, worst, apart), (worst, apart, bounds), (), []]
        yield {at: part for at, part in enumerate(paper)}
        # Sizes that are no told ones, doubles, and more bounds than the number.
        top = max(sizes)
        yield (worst, bounds + [top + 1], apart)
        yield (worst, bounds[:-1], apart)
        yield (worst, bounds + [top], apart)
        yield (worst, [0] + bounds, apart)
        yield (worst, [], apart)
        if len(sizes) > many:
            yield (0, sorted(sizes), [])
        for many_apart in (apart + [top], [min(sizes)] + apart, apart[1:], apart[:-1], [top] * (many + 1), apart[::-1]):
            if many_apart != apart:
                yield (worst, bounds, many_apart)

    @staticmethod
    def bent_rows(row):
        yield from [tuple(row), None, 0, set(row), str(row), EqualToAll(), Falling(), {at: at for at in row}, iter(row)]
        for at, size in enumerate(row):
            for other in [float(size), str(size), None, [size], EqualToAll(), Falling(), size + 10 ** 6, -size, 0]:
                yield row[:at] + [other] + row[at + 1:]
            if size == 1:
                yield row[:at] + [True] + row[at + 1:]

    def test_right_papers_bent_in_each_of_their_parts(self):
        for sizes, many, paper in PAPERS:
            for value in self.bent(sizes, many, paper):
                self.says_false(shows_least(sizes, many, value))

    def test_all_tuples_of_small_sizes(self):
        for sizes in ([1, 2, 4, 5], [1, 2, 3], [2, 6, 7], [3]):
            rows = [list(row) for number in range(len(sizes) + 2)
                    for row in itertools.product([1, 2, 3, 4, 5, 6, 7], repeat=number)
                    if number < 4 and set(row) <= set(sizes) | {min(sizes) - 1, max(sizes) + 1}]
            for many in (1, 2):
                right = least_greatest(sizes, many)
                for worst, bounds, apart in itertools.product((right - 1, right, right + 1), rows, rows):
                    self.assertIs(shows_least(sizes, many, (worst, bounds, apart)),
                                  self.by_words(sizes, many, worst, bounds, apart))

    def by_words(self, sizes, many, worst, bounds, apart):
        if not set(bounds) | set(apart) <= set(sizes) or bounds != sorted(set(bounds)) or len(bounds) > many:
            return False
        if served(bounds, sizes) is None or served(bounds, sizes) > worst:
            return False
        if worst == 0:
            return apart == []
        gaps = [b - a >= worst for a, b in zip(apart, apart[1:])]
        return len(apart) == many + 1 and all(gaps)

    def test_bounds_with_a_lesser_loss_than_told(self):
        # The loss itself is not the least one: two sizes apart by it could be served better.
        self.says_false(shows_least([1, 2, 3, 4, 5], 2, (3, [3, 5], [1, 4])))
        self.says_false(shows_least([1, 2, 3, 4, 5], 2, (3, [3, 5], [1, 3, 5])))
        self.says_false(shows_least([1, 2, 3, 4, 5], 2, (1, [3, 5], [1, 3, 5])))

    def test_values_of_any_other_form(self):
        for value in NO_OBJECTS + ["paper", shows_least, (0, 0, 0), (None, None, None)]:
            self.says_false(shows_least([2, 3, 9, 10], 2, value))
            self.says_false(shows_least([1, 3], 2, value))

    def test_nothing_given_is_changed(self):
        sizes, paper = [10, 2, 9, 3], (1, [3, 10], [2, 3, 9])
        self.says_true(shows_least(sizes, 2, paper))
        self.assertEqual((sizes, paper), ([10, 2, 9, 3], (1, [3, 10], [2, 3, 9])))


if __name__ == "__main__":
    unittest.main()
