"""Sessions: the bounds of steps, and weights, edited."""

from roomtold.best import best_steps
from roomtold.errors import BadArgument, BadChange, BadNumber, BadSize
from roomtold.history import History, Trial
from roomtold.losses import MOST_SIZES, check_weights_by, greatest_loss, is_weight
from roomtold.steps import GREATEST_ROOM, MOST_BOUNDS, Steps, are_integers, is_integer


def _is_told(size, weights):
    """Whether any value is one of the told sizes."""
    return is_integer(size, 1, GREATEST_ROOM) and size in weights


def _with_bound(steps, bound):
    """The steps with a bound more."""
    if not is_integer(bound, 1, steps.most) or bound in steps or len(steps) == MOST_BOUNDS:
        raise BadChange(bound)
    return Steps(steps.most, sorted(steps.bounds + [bound]))


class Session:
    """Steps and weights, changed by edits."""

    def __init__(self, steps, weights):
        check_weights_by(steps, weights)
        # A dict of weights is never changed once it stands in a state.
        self._history = History((steps, {size: weights[size] for size in sorted(weights)}))

    @property
    def steps(self):
        """The steps as they are now."""
        return self._history.state[0]

    @property
    def limit(self):
        """The greatest room."""
        return self._history.state[0].most

    @limit.setter
    def limit(self, value):
        steps, weights = self._history.state
        other = Steps(value, steps.bounds)
        if max(list(weights)) > value:
            raise BadNumber(value)
        self._history.change((other, weights))

    @property
    def weights(self):
        """The weights, ascending, as a dict of the caller's own."""
        return dict(self._history.state[1])

    def __getitem__(self, size):
        weights = self._history.state[1]
        if not _is_told(size, weights):
            raise BadSize(size)
        return weights[size]

    def __setitem__(self, size, weight):
        steps, weights = self._history.state
        if not is_integer(size, 1, steps.most):
            raise BadSize(size)
        if not is_weight(weight):
            raise BadNumber(weight)
        if size not in weights and len(weights) == MOST_SIZES:
            raise BadChange(size)
        more = {**weights, size: weight}
        self._history.change((steps, {told: more[told] for told in sorted(more)}))

    def __contains__(self, size):
        return _is_told(size, self._history.state[1])

    def __iter__(self):
        # Without this Python would go over the session by its sizes from 0 on.
        raise TypeError("a session is not iterated over")

    def __len__(self):
        return len(self._history.past)

    def put(self, bound):
        """Puts a bound that is not there yet."""
        steps, weights = self._history.state
        self._history.change((_with_bound(steps, bound), weights))

    def drop(self, bound):
        """Drops a bound, but not the last one."""
        steps, weights = self._history.state
        if bound not in steps or len(steps) == 1:
            raise BadChange(bound)
        left = [other for other in steps.bounds if other != bound]
        self._history.change((Steps(steps.most, left), weights))

    def __ior__(self, other):
        steps, weights = self._history.state
        if not are_integers(other, 1, steps.most):
            raise BadChange(other)
        bounds = sorted(set(steps.bounds + list(other)))
        if len(bounds) > MOST_BOUNDS:
            raise BadChange(other)
        self._history.change((Steps(steps.most, bounds), weights))
        return self

    def forget(self, size):
        """Leaves a told size out, but not the last one."""
        steps, weights = self._history.state
        if not _is_told(size, weights) or len(weights) == 1:
            raise BadChange(size)
        left = {told: weight for told, weight in weights.items() if told != size}
        self._history.change((steps, left))

    def tune(self, many):
        """Makes the bounds the best ones, at most so many, for the told sizes."""
        steps, weights = self._history.state
        bounds = best_steps(list(weights), many)
        self._history.change((Steps(steps.most, bounds), weights))

    def undo(self):
        """Takes the last edit back."""
        self._history.undo()

    def redo(self):
        """Makes the edit again that was taken back last."""
        self._history.redo()

    def trial(self):
        """A context: if an error leaves its block, the session is as it was at its beginning."""
        return Trial(self, self._history)

    def tried(self, bounds):
        """Puts bounds one by one, all or none; the greatest losses behind each of them."""
        if not isinstance(bounds, (list, tuple)):
            raise BadArgument(bounds)
        steps, weights = self._history.state
        rows = []
        for bound in bounds:
            steps = _with_bound(steps, bound)
            rows.append(steps)
        # None is put ahead of the last one that could be wrong.
        for row in rows:
            self._history.change((row, weights))
        return [greatest_loss(row, list(weights)) for row in rows]
