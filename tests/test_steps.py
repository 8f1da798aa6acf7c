"""Promise 3: steps, the class of a room and the need of a size; with promise 2, as far as it speaks of them."""

import itertools
import unittest

from roomtold.errors import BadArgument, BadSize, BadSteps
from roomtold.steps import Steps
from roomtold.trees import Tree
from tests.checks import Case
from tests.odd import NO_INTEGERS, NO_ROWS, EqualToAll, Falling


def small_steps():
    """All steps with a greatest room of at most 6."""
    for most in range(1, 7):
        for many in range(1, most + 1):
            for bounds in itertools.combinations(range(1, most + 1), many):
                yield Steps(most, bounds)


class Making(Case):
    def test_parts_as_given(self):
        steps = Steps(12, [3, 6, 10])
        self.assertEqual((steps.most, steps.bounds), (12, [3, 6, 10]))
        self.assertEqual(list(vars(steps))[0], "most")

    def test_by_name(self):
        self.assertEqual(Steps(bounds=[2], most=4), Steps(4, [2]))

    def test_tuple_and_list_alike(self):
        self.assertEqual(Steps(12, (3, 6, 10)).bounds, [3, 6, 10])
        self.assertEqual(Steps(12, (3, 6, 10)), Steps(12, [3, 6, 10]))

    def test_least_and_greatest(self):
        self.assertEqual(Steps(1, [1]).bounds, [1])
        self.assertEqual(Steps(1000, [1000]).bounds, [1000])
        self.assertEqual(Steps(1000, [1, 1000]).bounds, [1, 1000])
        self.assertEqual(Steps(8, list(range(1, 9))).bounds, [1, 2, 3, 4, 5, 6, 7, 8])
        self.assertEqual(Steps(1000, list(range(993, 1001))).bounds, list(range(993, 1001)))

    def test_wrong_most(self):
        for most in [0, -1, 1001, 10 ** 100, -10 ** 100] + NO_INTEGERS:
            self.raises(BadSteps, "part", "most", Steps, most, [1])

    def test_wrong_bounds(self):
        wrong = [
            [], (), [0], [-1], [13], [0, 3], [3, 13], [3, 3], [1, 2, 2], [6, 3], [3, 10, 6], [True], [1, True], [False, 3],
            [1.0], [3, 6.0], ["3"], [None], [[3]], [(3,)], (3, None), list(range(1, 10)), tuple(range(1, 10)), [10 ** 100],
            [EqualToAll()], [Falling()], [1, Falling()],
        ]
        for bounds in wrong + NO_ROWS:
            self.raises(BadSteps, "part", "bounds", Steps, 12, bounds)
        for bounds in ([2], [1, 2], [1001]):
            self.raises(BadSteps, "part", "bounds", Steps, 1, bounds)
        self.raises(BadSteps, "part", "bounds", Steps, 1000, [1001])

    def test_most_is_told_before_bounds(self):
        for most, bounds in itertools.product([0, 1001, True, None, "12"], [[], [0], [3, 3], None, list(range(1, 10))]):
            self.raises(BadSteps, "part", "most", Steps, most, bounds)
            self.raises(BadSteps, "part", "most", Steps, bounds=bounds, most=most)

    def test_given_list_is_not_kept(self):
        given = [3, 6]
        steps = Steps(12, given)
        given.append(9)
        given[0] = 5
        self.assertEqual(steps.bounds, [3, 6])

    def test_given_list_is_not_changed(self):
        given = [3, 6]
        told = Steps(12, given).bounds
        told.append(7)
        self.assertEqual(given, [3, 6])

    def test_told_list_belongs_to_the_caller(self):
        steps = Steps(12, [3, 6])
        steps.bounds.append(9)
        steps.bounds[0] = 1
        self.assertEqual(steps.bounds, [3, 6])
        self.assertIs(steps.bounds.__class__, list)
        self.assertEqual([steps.class_of(3), len(steps), list(steps)], [1, 2, [3, 6]])

    def test_bounds_is_a_property(self):
        with self.assertRaises(AttributeError):
            Steps(12, [3]).bounds = [4]


class Asking(Case):
    def test_len_is_how_many_bounds(self):
        for steps in small_steps():
            self.assertEqual(len(steps), len(steps.bounds))

    def test_iteration_yields_the_bounds(self):
        for steps in small_steps():
            self.assertEqual(list(steps), steps.bounds)
        first, second = Steps(5, [2, 4])
        self.assertEqual((first, second), (2, 4))

    def test_in_tells_the_bounds(self):
        for steps in small_steps():
            for number in range(-1, 9):
                self.assertIs(number in steps, number in steps.bounds)

    def test_in_with_any_value(self):
        for steps in (Steps(2, [1]), Steps(2, [1, 2])):
            for value in NO_INTEGERS + NO_ROWS + [0, 10 ** 100, -10 ** 100, steps, steps.bounds]:
                self.says_false(value in steps)
                self.says_true(value not in steps)
        self.says_true(1000 in Steps(1000, [1000]))

    def test_class_counts_the_bounds_not_greater(self):
        for steps in small_steps():
            for room in range(steps.most + 1):
                told = sum(bound <= room for bound in steps.bounds)
                self.assertEqual((steps.class_of(room), steps(room)), (told, told))

    def test_class_at_the_edges(self):
        steps = Steps(1000, [1, 500, 1000])
        self.assertEqual([steps(room) for room in (0, 1, 499, 500, 999, 1000)], [0, 1, 1, 2, 2, 3])
        self.assertEqual([Steps(1, [1])(0), Steps(1, [1])(1)], [0, 1])
        self.assertEqual(Steps(8, list(range(1, 9)))(8), 8)

    def test_class_by_name(self):
        self.assertEqual((Steps(12, [3]).class_of(room=4), Steps(12, [3])(room=2)), (1, 0))

    def test_class_of_what_is_no_room(self):
        steps = Steps(12, [3, 6, 10])
        for room in [-1, 13, 1000, 10 ** 100, -10 ** 100] + NO_INTEGERS:
            self.raises(BadSize, "value", room, steps.class_of, room)
            self.raises(BadSize, "value", room, steps, room)

    def test_need_is_the_first_bound_not_less(self):
        for steps in small_steps():
            for size in range(1, steps.most + 1):
                fitting = [j for j, bound in enumerate(steps.bounds, start=1) if bound >= size]
                self.assertEqual(steps.need(size), min(fitting, default=None))

    def test_need_at_the_edges(self):
        steps = Steps(12, [3, 6, 10])
        self.assertEqual([steps.need(size) for size in (1, 3, 4, 6, 7, 10)], [1, 1, 2, 2, 3, 3])
        self.assertEqual([steps.need(11), steps.need(12), steps.need(size=2)], [None, None, 1])
        self.assertEqual([Steps(1000, [1000]).need(1000), Steps(1000, [999]).need(1000)], [1, None])

    def test_need_of_what_is_no_size(self):
        steps = Steps(12, [3, 6, 10])
        for size in [0, -1, 13, 10 ** 100] + NO_INTEGERS:
            self.raises(BadSize, "value", size, steps.need, size)

    def test_class_as_the_need_or_more_has_room(self):
        for steps in small_steps():
            for size, room in itertools.product(range(1, steps.most + 1), range(steps.most + 1)):
                need = steps.need(size)
                if need is not None and steps(room) >= need:
                    self.assertGreaterEqual(room, size)
        # Other rooms may have room for it, too.
        self.assertLess(Steps(12, [3, 6, 10])(5), Steps(12, [3, 6, 10]).need(4))

    def test_examples_of_the_document(self):
        steps = Steps(12, [3, 6, 10])
        self.assertEqual([steps(5), steps.need(4), steps.need(11)], [1, 2, None])

    def test_repr_is_always_the_same_text(self):
        steps = Steps(12, [3])
        self.assertIsInstance(repr(steps), str)
        self.assertEqual(repr(steps), repr(steps))


class Joining(Case):
    def test_bounds_of_both(self):
        for most in range(1, 5):
            every = [steps for steps in small_steps() if steps.most == most]
            for one, other in itertools.product(every, every):
                both = one | other
                self.assertIs(both.__class__, Steps)
                self.assertEqual(both.bounds, sorted(set(one.bounds) | set(other.bounds)))
                self.assertEqual(both.most, most)

    def test_neither_is_changed(self):
        one, other = Steps(12, [3, 10]), Steps(12, [1, 6])
        self.assertEqual((one | other).bounds, [1, 3, 6, 10])
        self.assertEqual((one.bounds, other.bounds), ([3, 10], [1, 6]))

    def test_up_to_eight_bounds(self):
        one, other = Steps(20, [1, 3, 5, 7]), Steps(20, [2, 4, 6, 8])
        self.assertEqual((one | other).bounds, [1, 2, 3, 4, 5, 6, 7, 8])
        eight = Steps(20, list(range(11, 19)))
        self.assertEqual(eight | Steps(20, [11, 18]), eight)
        self.assertEqual(eight | eight, eight)

    def test_more_than_eight_bounds(self):
        one = Steps(20, [1, 3, 5, 7])
        for other in (Steps(20, [2, 4, 6, 8, 10]), Steps(20, list(range(10, 18))), Steps(20, list(range(7, 13)))):
            self.raises(BadArgument, "value", other, one.__or__, other)
            self.raises(BadArgument, "value", one, other.__or__, one)
        with self.assertRaises(BadArgument):
            Steps(20, list(range(1, 9))) | Steps(20, [9])
        self.assertEqual(one.bounds, [1, 3, 5, 7])

    def test_unlike_greatest_rooms(self):
        one, other = Steps(12, [3]), Steps(13, [3])
        self.raises(BadArgument, "value", other, one.__or__, other)
        self.raises(BadArgument, "value", one, other.__or__, one)

    def test_no_steps(self):
        for other in NO_INTEGERS + NO_ROWS + [[3], 12, Tree(1, [0, 0, 0])]:
            self.raises(BadArgument, "value", other, lambda: Steps(12, [3]) | other)


class Equality(Case):
    def test_by_most_and_bounds(self):
        every = list(small_steps())
        for one, other in itertools.product(every, every):
            alike = (one.most, one.bounds) == (other.most, other.bounds)
            self.assertIs(one == other, alike)
            self.assertIs(one != other, not alike)

    def test_made_anew(self):
        self.says_true(Steps(12, [3, 6]) == Steps(12, (3, 6)))
        self.says_false(Steps(12, [3, 6]) == Steps(11, [3, 6]))
        self.says_false(Steps(12, [3, 6]) == Steps(12, [3]))

    def test_other_values(self):
        steps = Steps(1, [1])
        for value in NO_INTEGERS + NO_ROWS + [1, [1], (1, [1]), (1, (1,)), Tree(1, [1, 1, 1])]:
            self.says_false(steps == value)
            self.says_true(steps != value)


if __name__ == "__main__":
    unittest.main()
