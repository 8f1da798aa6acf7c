"""Promise 20: sessions; with promise 2, as far as it speaks of them."""

import random
import time
import unittest

from roomtold.best import best_steps
from roomtold.errors import BadArgument, BadChange, BadNumber, BadSize, BadSteps, NothingLeft
from roomtold.losses import greatest_loss
from roomtold.sessions import Session
from roomtold.steps import Steps
from tests.checks import Case
from tests.odd import NO_INTEGERS, NO_ROWS, EqualToAll, Falling
from tests.test_best import NO_MANY
from tests.test_losses import NO_STEPS, NO_WEIGHT_VALUES, NO_WEIGHTS
from tests.test_tables import left

WEIGHTS = {7: 2, 4: 1, 10: 0}
EIGHT = [1, 2, 3, 4, 5, 6, 7, 8]
NO_BOUNDS = [0, -1, 13, 1001, 10 ** 100] + NO_INTEGERS


def session(bounds=(3, 6, 10), weights=None, most=12):
    return Session(Steps(most, bounds), WEIGHTS if weights is None else weights)


def all_of(one):
    return (one.steps, one.limit, list(one.weights.items()), len(one))


class Edits(Case):
    """What several tests ask of an edit."""

    def refused(self, error, field, value, edit):
        """The edit raises the error, and nothing has changed, what was taken back neither."""
        one = session()
        one.put(1)
        one[5] = 9
        one.put(2)
        one.undo()
        before = all_of(one)
        self.raises(error, field, value, edit, one)
        self.assertEqual((all_of(one), left(one)), (before, (2, 1)))

    def done(self, edit, bounds=None, limit=12, weights=None):
        """The edit leaves the bounds, the greatest room and the weights like this, and can be taken back."""
        one = session()
        one.put(1)
        one.undo()
        before = all_of(one)
        self.assertIsNone(edit(one))
        told = (Steps(limit, bounds or [3, 6, 10]), limit, sorted((weights or WEIGHTS).items()), 1)
        self.assertEqual((all_of(one), left(one)), (told, (1, 0)))
        self.assertIsNone(one.undo())
        self.assertEqual((all_of(one), left(one)), (before, (0, 1)))
        self.assertIsNone(one.redo())
        self.assertEqual(all_of(one), told)
        self.assertRaises(NothingLeft, one.redo)
        one.undo()
        self.assertRaises(NothingLeft, one.undo)


class Made(Case):
    def test_as_given(self):
        one = session()
        self.assertEqual(all_of(one), (Steps(12, [3, 6, 10]), 12, [(4, 1), (7, 2), (10, 0)], 0))
        self.assertEqual([one.steps.__class__, one.weights.__class__], [Steps, dict])
        self.assertEqual(all_of(Session(weights=WEIGHTS, steps=Steps(12, (3, 6, 10)))), all_of(one))
        self.assertEqual([one[4], one[7], one[10]], [1, 2, 0])
        thirty = {size: size for size in range(971, 1001)}
        self.assertEqual(session([1], thirty, 1000).weights, thirty)

    def test_wrong(self):
        self.wrong(Session, ("steps", Steps(12, [3]), BadArgument, "value", NO_STEPS),
                   ("weights", {12: 1}, BadArgument, "value", NO_WEIGHTS + [{13: 1}, {1: 1, 1000: 0}]))

    def test_given_weights_are_neither_kept_nor_changed(self):
        weights = dict(WEIGHTS)
        one = session(weights=weights)
        one[5] = 9
        one.forget(7)
        self.assertEqual(list(weights.items()), [(7, 2), (4, 1), (10, 0)])
        weights.clear()
        self.assertEqual(one.weights, {4: 1, 5: 9, 10: 0})

    def test_told_weights_belong_to_the_caller(self):
        one = session()
        one.weights.clear()
        one.weights[4] = 1000
        one[5] = 9
        told = one.weights
        del told[4]
        self.assertEqual(one.weights, {4: 1, 5: 9, 7: 2, 10: 0})
        one.undo()
        self.assertEqual(one.weights, WEIGHTS)

    def test_which_sizes_are_told(self):
        one = session([1], {1: 5, 2: 0}, 12)
        self.assertEqual([size in one for size in range(-1, 14)], [size in (1, 2) for size in range(-1, 14)])
        for value in [10 ** 100] + NO_INTEGERS:
            self.says_false(value in one)
        for value in [0, 3, -1, 12, 13, 10 ** 100] + NO_INTEGERS:
            self.raises(BadSize, "value", value, lambda: one[value])
        for call in (iter, list):
            self.assertRaises(TypeError, call, one)

    def test_properties_that_cannot_be_set(self):
        one = session()
        for name in ("steps", "weights"):
            with self.assertRaises(AttributeError):
                setattr(one, name, getattr(one, name))
        self.assertEqual(repr(one), repr(one))


class Bounds(Edits):
    def test_put(self):
        self.done(lambda one: one.put(1), [1, 3, 6, 10])
        self.done(lambda one: one.put(bound=12), [3, 6, 10, 12])
        self.done(lambda one: one.put(7), [3, 6, 7, 10])

    def test_put_what_cannot_be(self):
        for bound in NO_BOUNDS + [3, 6, 10, 1]:
            self.refused(BadChange, "value", bound, lambda one: one.put(bound))
        one = session(EIGHT)
        for bound in (9, 12, 1, 13):
            self.raises(BadChange, "value", bound, one.put, bound)
        one.drop(8)
        one.put(9)
        self.assertEqual(one.steps.bounds, [1, 2, 3, 4, 5, 6, 7, 9])
        self.raises(BadChange, "value", 8, one.put, 8)

    def test_drop(self):
        self.done(lambda one: one.drop(3), [6, 10])
        self.done(lambda one: one.drop(bound=10), [3, 6])

    def test_drop_what_cannot_be(self):
        for bound in NO_BOUNDS + [2, 4, 11, 12]:
            self.refused(BadChange, "value", bound, lambda one: one.drop(bound))
        one = session([1])
        for bound in [1, True, 1.0]:
            self.raises(BadChange, "value", bound, one.drop, bound)
        one.put(2)
        one.drop(1)
        self.raises(BadChange, "value", 2, one.drop, 2)
        self.assertEqual(one.steps.bounds, [2])

    def test_several_at_once(self):
        def joined(one, bounds):
            same = one
            one |= bounds
            self.assertIs(one, same)

        self.done(lambda one: joined(one, [12, 1, 7]), [1, 3, 6, 7, 10, 12])
        self.done(lambda one: joined(one, (12, 1, 12, 1, 3)), [1, 3, 6, 10, 12])
        self.done(lambda one: joined(one, [5] * 100), [3, 5, 6, 10])
        self.done(lambda one: joined(one, [1, 2, 4, 5, 7, 3]), [1, 2, 3, 4, 5, 6, 7, 10])
        # An edit that leaves all as it was.
        for bounds in ([], (), [3], (10, 6, 6, 3)):
            self.done(lambda one: joined(one, bounds))

    def test_several_that_could_not_be(self):
        def joined(one, bounds):
            one |= bounds

        wrong = [[1, 2, 4, 5, 7, 8], tuple(range(1, 13)), [13], [0], [1, -1], [1, True], [1, 2.0], (1, None), [[1]],
                 [1, EqualToAll()], [Falling()], [1, 13], [1, 10 ** 100], Steps(12, [1]), {1: 1}]
        for bounds in wrong + NO_ROWS + ["", 1]:
            self.refused(BadChange, "value", bounds, lambda one: joined(one, bounds))

    def test_given_bounds_are_neither_kept_nor_changed(self):
        one, bounds = session(), [12, 1, 12]
        one |= bounds
        self.assertEqual(bounds, [12, 1, 12])
        bounds.clear()
        one.put(2)
        self.assertEqual(one.steps.bounds, [1, 2, 3, 6, 10, 12])
        one.steps.bounds.clear()
        self.assertEqual(len(one.steps), 6)

    def test_tune(self):
        self.done(lambda one: one.tune(1), [10])
        self.done(lambda one: one.tune(many=2), [4, 10])
        for many in range(3, 9):
            self.done(lambda one: one.tune(many), [4, 7, 10])
        chance = random.Random(201)
        for many in range(1, 9):
            sizes = chance.sample(range(1, 1001), 30)
            one = session([1], {size: 1 for size in sizes}, 1000)
            one.tune(many)
            self.assertEqual(one.steps, Steps(1000, best_steps(sizes, many)))
            one.tune(many)
            self.assertEqual((one.steps, len(one)), (Steps(1000, best_steps(sizes, many)), 2))
        for many in NO_MANY:
            self.refused(BadNumber, "number", many, lambda one: one.tune(many))


class Weights(Edits):
    @staticmethod
    def weigh(size, weight):
        def edit(one):
            one[size] = weight
        return edit

    def test_set(self):
        self.done(self.weigh(4, 1000), weights={**WEIGHTS, 4: 1000})
        self.done(self.weigh(4, 0), weights={**WEIGHTS, 4: 0})
        self.done(self.weigh(1, 5), weights={**WEIGHTS, 1: 5})
        self.done(self.weigh(12, 5), weights={**WEIGHTS, 12: 5})
        # An edit that leaves all as it was.
        self.done(self.weigh(7, 2))

    def test_what_cannot_be_set(self):
        sizes, weights = NO_BOUNDS, NO_WEIGHT_VALUES
        for size in sizes:
            for weight in [1, -1, True, None]:
                self.refused(BadSize, "value", size, self.weigh(size, weight))
        for weight in weights:
            for size in (4, 1):
                self.refused(BadNumber, "number", weight, self.weigh(size, weight))

    def test_thirty_one(self):
        one = session([1], {size: 1 for size in range(1, 31)}, 1000)
        self.raises(BadChange, "value", 31, self.weigh(31, 1), one)
        self.raises(BadNumber, "number", 1001, self.weigh(31, 1001), one)
        self.raises(BadSize, "value", 1001, self.weigh(1001, 1001), one)
        self.assertEqual(len(one), 0)
        one[30] = 7
        one.forget(1)
        one[1000] = 3
        self.assertEqual((len(one.weights), one[30], one[1000], len(one)), (30, 7, 3, 3))
        self.assertEqual(list(one.weights), list(range(2, 31)) + [1000])
        self.raises(BadChange, "value", 1, self.weigh(1, 1), one)

    def test_forget(self):
        self.done(lambda one: one.forget(7), weights={4: 1, 10: 0})
        self.done(lambda one: one.forget(size=10), weights={4: 1, 7: 2})
        for size in NO_BOUNDS + [1, 3, 6, 12]:
            self.refused(BadChange, "value", size, lambda one: one.forget(size))
        one = session(weights={1: 1})
        for size in (1, True, 1.0):
            self.raises(BadChange, "value", size, one.forget, size)
        one[2] = 0
        one.forget(1)
        self.raises(BadChange, "value", 2, one.forget, 2)
        self.assertEqual((one.weights, len(one)), ({2: 0}, 2))


class Limits(Edits):
    @staticmethod
    def limit(number):
        def edit(one):
            one.limit = number
        return edit

    def test_set(self):
        for number in (10, 11, 12, 13, 1000):
            self.done(self.limit(number), limit=number)

    def test_what_cannot_be_set(self):
        for number in [0, -1, 1001, 10 ** 100] + NO_INTEGERS:
            self.refused(BadSteps, "part", "most", self.limit(number))
        for number in (1, 3, 9):
            self.refused(BadSteps, "part", "bounds", self.limit(number))

    def test_below_a_told_size(self):
        one = session([3], {4: 1, 9: 0})
        for number, error, field, told in ((8, BadNumber, "number", 8), (3, BadNumber, "number", 3),
                                           (2, BadSteps, "part", "bounds"), (0, BadSteps, "part", "most")):
            self.raises(error, field, told, self.limit(number), one)
        self.assertEqual((one.limit, len(one)), (12, 0))
        one.limit = 9
        self.assertEqual((one.limit, one.steps, len(one)), (9, Steps(9, [3]), 1))
        # What can be put and weighed hangs on the greatest room as it is now.
        self.raises(BadChange, "value", 10, one.put, 10)
        self.raises(BadSize, "value", 10, Weights.weigh(10, 1), one)
        one.limit = 1000
        one.put(1000)
        one[1000] = 1
        self.raises(BadSteps, "part", "bounds", self.limit(999), one)
        one.drop(1000)
        self.raises(BadNumber, "number", 999, self.limit(999), one)
        one.forget(1000)
        one.limit = 999
        self.assertEqual((one.limit, len(one)), (999, 7))


class Undo(Case):
    def edits(self, one):
        yield lambda: one.put(1)
        yield lambda: one.__setitem__(2, 5)
        yield lambda: one.drop(10)
        yield lambda: one.__ior__([4, 8])
        yield lambda: one.forget(2)
        yield lambda: setattr(one, "limit", 100)
        yield lambda: one.tune(2)
        yield lambda: one.tune(2)
        yield lambda: one.tried([1, 2])
        yield lambda: one.__ior__([])

    def test_one_behind_another(self):
        one = session()
        told = [all_of(one)]
        for edit in self.edits(one):
            edit()
            told.append(all_of(one))
            one.undo()
            one.redo()
            self.assertEqual(all_of(one), told[-1])
        self.assertEqual(len(one), 11)
        for count in range(10, -1, -1):
            one.undo()
            # The one of two bounds in a trial that is half taken back was told by no edit of the list.
            before = [state for state in told if state[3] == count]
            self.assertEqual([all_of(one)] if before else [], before)
        self.assertRaises(NothingLeft, one.undo)
        for count in range(1, 12):
            one.redo()
            self.assertEqual(len(one), count)
        self.assertRaises(NothingLeft, one.redo)
        self.assertEqual(all_of(one), told[-1])

    def test_an_edit_behind_an_undo(self):
        for at in range(10):
            one = session()
            one[2] = 3
            one.put(11)
            one.undo()
            self.assertEqual(left(one), (1, 1))
            list(self.edits(one))[at]()
            # The ninth puts two bounds, each an edit of its own.
            self.assertEqual(left(one), (3 if at == 8 else 2, 0))
            self.assertRaises(NothingLeft, one.redo)

    def test_nothing_left(self):
        one = session()
        self.assertRaises(NothingLeft, one.undo)
        self.assertRaises(NothingLeft, one.redo)
        one.put(1)
        self.assertRaises(NothingLeft, one.redo)
        one.undo()
        self.assertRaises(NothingLeft, one.undo)
        self.assertEqual(left(one), (0, 1))


class Trials(Case):
    def test_one_that_ends(self):
        one = session()
        with one.trial() as tried:
            self.assertIs(tried, one)
            tried.put(1)
            tried[1] = 5
        self.assertEqual((one.steps.bounds, one.weights, left(one)), ([1, 3, 6, 10], {1: 5, **WEIGHTS}, (2, 0)))

    def test_one_that_an_error_leaves(self):
        for error in (BadChange(1), NothingLeft(), KeyError("a"), RuntimeError(), KeyboardInterrupt()):
            one = session()
            one.put(1)
            before = all_of(one)
            one.put(2)
            one.undo()
            with self.assertRaises(error.__class__) as caught:
                with one.trial():
                    one.limit = 500
                    one[400] = 3
                    one.undo()
                    one.undo()
                    one.undo()
                    one.tune(1)
                    raise error
            self.assertIs(caught.exception, error)
            self.assertEqual((all_of(one), left(one)), (before, (1, 1)))
            one.redo()
            self.assertEqual(one.steps.bounds, [1, 2, 3, 6, 10])

    def test_errors_of_the_session_itself(self):
        for wrong, error in ((lambda one: one.put(3), BadChange), (lambda one: one.redo(), NothingLeft),
                             (lambda one: one[5], BadSize), (lambda one: one.tried(3), BadArgument),
                             (lambda one: one.tried([2, 2]), BadChange), (lambda one: one.tune(0), BadNumber),
                             (lambda one: setattr(one, "limit", 1), BadSteps)):
            one = session()
            one.put(1)
            one.undo()
            with self.assertRaises(error):
                with one.trial():
                    one.drop(6)
                    wrong(one)
            self.assertEqual((one.steps.bounds, left(one)), ([3, 6, 10], (0, 1)))

    def test_one_behind_another_and_one_within_another(self):
        one = session()
        trial = one.trial()
        one.put(1)
        for _ in range(2):
            with self.assertRaises(KeyError):
                with trial:
                    one.undo()
                    one.put(2)
                    with self.assertRaises(NothingLeft):
                        with one.trial():
                            one.put(4)
                            one.redo()
                    self.assertEqual((one.steps.bounds, left(one)), ([2, 3, 6, 10], (1, 0)))
                    raise KeyError
            self.assertEqual((one.steps.bounds, left(one)), ([1, 3, 6, 10], (1, 0)))
        with trial:
            one.undo()
        self.assertEqual(left(one), (0, 1))


class Tried(Case):
    def test_all_can_be_put(self):
        one = session([6])
        self.assertEqual(one.tried([5, 10, 11]), [None, 3, 3])
        self.assertEqual((one.steps.bounds, len(one)), ([5, 6, 10, 11], 3))
        one.undo()
        self.assertEqual((one.steps.bounds, left(one)), ([5, 6, 10], (2, 1)))
        one.undo()
        one.undo()
        self.assertEqual((one.steps.bounds, left(one)), ([6], (0, 3)))
        self.assertEqual(one.tried(bounds=(10, 7)), [3, 2])
        self.assertEqual((one.steps.bounds, left(one)), ([6, 7, 10], (2, 0)))
        one.undo()
        self.assertEqual(one.steps.bounds, [6, 10])

    def test_up_to_eight(self):
        one = session([1])
        told = one.tried([12, 11, 10, 9, 8, 7, 6])
        self.assertEqual(told, [8, 7, 6, 5, 4, 3, 2])
        self.assertEqual(len(one), 7)

    def test_one_that_cannot_be_put(self):
        for bounds, wrong in (([1, 3], 3), ([1, 1], 1), ([1, 13, 0], 13), ((0, 1), 0), ([1, 2, 4, 5, 7, 8, 9], 8)):
            one = session()
            one.put(11)
            one.undo()
            before = all_of(one)
            self.raises(BadChange, "value", wrong, one.tried, bounds)
            self.assertEqual((all_of(one), left(one)), (before, (0, 1)))
        for value in NO_INTEGERS:
            one = session()
            self.raises(BadChange, "value", value, one.tried, [1, value, 3])
            self.assertEqual(len(one), 0)

    def test_none(self):
        for bounds in ([], ()):
            one = session()
            one.put(11)
            one.undo()
            self.assertEqual(one.tried(bounds), [])
            self.assertEqual(left(one), (0, 1))

    def test_wrong(self):
        one = session()
        one.put(11)
        one.undo()
        for bounds in NO_ROWS + [Steps(12, [1]), {1: 1}]:
            self.raises(BadArgument, "value", bounds, one.tried, bounds)
        self.assertEqual(left(one), (0, 1))

    def test_given_bounds_are_not_changed(self):
        one, bounds = session(), [12, 1]
        one.tried(bounds).clear()
        self.assertEqual((bounds, one.steps.bounds), ([12, 1], [1, 3, 6, 10, 12]))


class Played(Case):
    """Against a play with sets and dicts, with copies of all that was ahead of each edit."""

    def edit(self, chance, one, bounds, weights, most):
        """An edit of the session that can be done; what it leaves by the play, or None."""
        kind = chance.choice(["put", "drop", "join", "weigh", "forget", "limit", "tune"])
        number = chance.randint(1, most)
        if kind == "put" and number not in bounds and len(bounds) < 8:
            one.put(number)
            return bounds | {number}, weights, most
        if kind == "drop" and len(bounds) > 1:
            bound = chance.choice(sorted(bounds))
            one.drop(bound)
            return bounds - {bound}, weights, most
        if kind == "join":
            more = [chance.randint(1, most) for _ in range(3)]
            if len(bounds | set(more)) <= 8:
                one |= more
                return bounds | set(more), weights, most
        if kind == "weigh" and (number in weights or len(weights) < 30):
            one[number] = number % 1001
            return bounds, {**weights, number: number % 1001}, most
        if kind == "forget" and len(weights) > 1:
            size = chance.choice(sorted(weights))
            one.forget(size)
            return bounds, {told: weight for told, weight in weights.items() if told != size}, most
        if kind == "limit":
            limit = chance.randint(max(*bounds, *weights), min(1000, most + 30))
            one.limit = limit
            return bounds, weights, limit
        if kind == "tune":
            many = chance.randint(1, 8)
            one.tune(many)
            return set(best_steps(list(weights), many)), weights, most
        return None

    def test_some_dozens_of_edits(self):
        begin = time.perf_counter()
        for seed in range(30):
            chance = random.Random(seed)
            past, now, future = [], ({30}, {20: 1}, 40), []
            one = Session(Steps(40, [30]), {20: 1})
            for _ in range(60):
                way = chance.random()
                if way < 0.2 and past:
                    future.append(now)
                    now = past.pop()
                    one.undo()
                elif way < 0.35 and future:
                    past.append(now)
                    now = future.pop()
                    one.redo()
                else:
                    behind = self.edit(chance, one, *now)
                    if behind is not None:
                        past.append(now)
                        now, future = behind, []
                bounds, weights, most = now
                told = (Steps(most, sorted(bounds)), most, sorted(weights.items()), len(past))
                self.assertEqual((all_of(one), left(one)), (told, (len(past), len(future))))
                self.assertEqual([size in one for size in range(1, 60)], [size in weights for size in range(1, 60)])
                served = max(bounds) >= max(weights)
                self.assertIs(greatest_loss(one.steps, list(one.weights)) is not None, served)
        self.assertLess(time.perf_counter() - begin, 20)


if __name__ == "__main__":
    unittest.main()
