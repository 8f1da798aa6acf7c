"""Ladders: what more bounds bring, and the fewest bounds for a loss, with papers that show it."""

from roomtold.best import are_apart, check_worst, cutting, least_greatest
from roomtold.errors import BadNumber
from roomtold.losses import check_sizes
from roomtold.steps import MOST_BOUNDS, is_integer
from roomtold.sums import sum_table


def ladder(sizes):
    """The least greatest losses by at most one to eight bounds."""
    return [least_greatest(sizes, many) for many in range(1, MOST_BOUNDS + 1)]


def sum_ladder(weights):
    """The least sums of losses by at most one to eight bounds."""
    return sum_table(weights, MOST_BOUNDS)[-1][1:]


def fewest_bounds(sizes, worst):
    """The fewest bounds for a loss, or None if they are more than eight."""
    many = len(cutting(sizes, worst))
    return many if many <= MOST_BOUNDS else None


def fewest_paper(sizes, worst):
    """A fewest paper for the fewest bounds, or for nine if there are none."""
    # The bounds of a cutting are apart by more than the loss.
    return cutting(sizes, worst)[:MOST_BOUNDS + 1]


def shows_fewest(sizes, worst, number, paper):
    """Whether any value is a fewest paper for a number."""
    check_sizes(sizes)
    check_worst(worst)
    if not is_integer(number, 1, MOST_BOUNDS + 1):
        raise BadNumber(number)
    return are_apart(paper, sizes, worst + 1) and len(paper) == number
