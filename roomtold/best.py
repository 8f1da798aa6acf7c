"""Best steps by the greatest loss, and papers that show that none are better."""

from roomtold.errors import BadNumber
from roomtold.losses import check_sizes
from roomtold.steps import GREATEST_ROOM, MOST_BOUNDS, is_integer


def check_many(many):
    """Raises for what is no number of bounds."""
    if not is_integer(many, 1, MOST_BOUNDS):
        raise BadNumber(many)


def check_worst(worst):
    """Raises for what is no loss that can be asked for."""
    if not is_integer(worst, 0, GREATEST_ROOM):
        raise BadNumber(worst)


def cutting(sizes, worst):
    """The bounds of the cutting for a loss."""
    check_sizes(sizes)
    check_worst(worst)
    downward = []
    for size in sorted(sizes, reverse=True):
        if not downward or downward[-1] - size > worst:
            downward.append(size)
    return downward[::-1]


def least_greatest(sizes, many):
    """The least greatest loss by at most so many bounds."""
    check_sizes(sizes)
    check_many(many)
    # One bound is enough for the whole difference, and for more loss there are never more runs.
    low = 0
    high = max(list(sizes)) - min(list(sizes))
    while low < high:
        middle = (low + high) // 2
        if len(cutting(sizes, middle)) <= many:
            high = middle
        else:
            low = middle + 1
    return low


def best_steps(sizes, many):
    """The bounds of the cutting for the least greatest loss."""
    return cutting(sizes, least_greatest(sizes, many))


def least_paper(sizes, many):
    """A least paper: the loss, bounds that have it, and sizes that no better ones can serve."""
    worst = least_greatest(sizes, many)
    bounds = cutting(sizes, worst)
    if worst == 0:
        return (worst, bounds, [])
    # A loss of one less needs more bounds, and these are apart by more than that.
    return (worst, bounds, cutting(sizes, worst - 1)[:many + 1])


def are_apart(value, sizes, least):
    """Whether any value is a list of told sizes, each by at least so much greater than the one ahead of it."""
    if not isinstance(value, list):
        return False
    if not all([is_integer(size, 1, GREATEST_ROOM) and size in sizes for size in value]):
        return False
    return all([value[at] - value[at - 1] >= least for at in range(1, len(value))])


def _serve(bounds, sizes, worst):
    """Whether each told size has a loss of at most this by these bounds."""
    for size in sizes:
        if not [bound for bound in bounds if size <= bound <= size + worst]:
            return False
    return True


def shows_least(sizes, many, value):
    """Whether any value is a least paper."""
    check_sizes(sizes)
    check_many(many)
    if not isinstance(value, tuple) or len(value) != 3:
        return False
    worst, bounds, apart = value
    if not is_integer(worst, 0, GREATEST_ROOM) or not are_apart(bounds, sizes, 1):
        return False
    if len(bounds) > many or not _serve(bounds, sizes, worst):
        return False
    if worst == 0:
        return isinstance(apart, list) and len(apart) == 0
    return are_apart(apart, sizes, worst) and len(apart) == many + 1
