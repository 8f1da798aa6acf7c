"""Steps: the bounds by which room is told in rough classes."""

from roomtold.errors import BadArgument, BadSize, BadSteps

GREATEST_ROOM = 1000
MOST_BOUNDS = 8


def is_integer(value, least, greatest):
    """Whether any value is an integer from least to greatest."""
    # Python counts True and False among the integers; the program does not.
    if not isinstance(value, int) or isinstance(value, bool):
        return False
    return least <= value <= greatest


def are_integers(value, least, greatest):
    """Whether any value is a list or tuple of integers from least to greatest."""
    if not isinstance(value, (list, tuple)):
        return False
    for number in value:
        if not is_integer(number, least, greatest):
            return False
    return True


def are_bounds(value, most):
    """Whether any value can be the bounds of steps with this greatest room."""
    if not are_integers(value, 1, most) or not 1 <= len(value) <= MOST_BOUNDS:
        return False
    for at in range(1, len(value)):
        if value[at - 1] >= value[at]:
            return False
    return True


class Steps:
    """One to eight ascending bounds from 1 to a greatest room."""

    def __init__(self, most, bounds):
        if not is_integer(most, 1, GREATEST_ROOM):
            raise BadSteps("most")
        if not are_bounds(bounds, most):
            raise BadSteps("bounds")
        self.most = most
        self._bounds = tuple(bounds)

    @property
    def bounds(self):
        """The bounds, as a list of the caller's own."""
        return list(self._bounds)

    def __len__(self):
        return len(self._bounds)

    def __contains__(self, number):
        # Without the first test 1.0 and True would pass for the bound 1.
        return is_integer(number, 1, self.most) and number in self._bounds

    def __iter__(self):
        return iter(self._bounds)

    def class_of(self, room):
        """The class of a room: how many bounds are not greater."""
        if not is_integer(room, 0, self.most):
            raise BadSize(room)
        return len([bound for bound in self._bounds if bound <= room])

    def __call__(self, room):
        return self.class_of(room)

    def need(self, size):
        """The least class that surely has room for a size, or None."""
        if not is_integer(size, 1, self.most):
            raise BadSize(size)
        for place, bound in enumerate(self._bounds, start=1):
            if bound >= size:
                return place
        return None

    def __or__(self, other):
        if not isinstance(other, Steps) or other.most != self.most:
            raise BadArgument(other)
        more = [bound for bound in other.bounds if bound not in self._bounds]
        if len(self._bounds) + len(more) > MOST_BOUNDS:
            raise BadArgument(other)
        return Steps(self.most, sorted(self.bounds + more))

    def __eq__(self, other):
        return isinstance(other, Steps) and self.most == other.most and self._bounds == other._bounds


def check_steps(steps):
    """Raises for what is no steps."""
    if not isinstance(steps, Steps):
        raise BadArgument(steps)
