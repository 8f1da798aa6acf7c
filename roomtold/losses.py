"""Losses: how much less than the bound of their need sizes are, and room that stays idle."""

from roomtold.errors import BadArgument, BadPage, BadRooms
from roomtold.steps import GREATEST_ROOM, are_integers, check_steps, is_integer
from roomtold.trees import Tree, are_rooms, is_page_count

MOST_SIZES = 30
GREATEST_WEIGHT = 1000


def are_sizes(value):
    """Whether any value can be told sizes."""
    if not are_integers(value, 1, GREATEST_ROOM) or not 1 <= len(value) <= MOST_SIZES:
        return False
    return len(set(value)) == len(value)


def is_weight(value):
    """Whether any value is a weight."""
    return is_integer(value, 0, GREATEST_WEIGHT)


def check_sizes(sizes):
    """Raises for what is no told sizes."""
    if not are_sizes(sizes):
        raise BadArgument(sizes)


def check_weights(weights):
    """Raises for what is no weights."""
    if not isinstance(weights, dict) or not are_sizes(list(weights)):
        raise BadArgument(weights)
    if not all([is_weight(weight) for weight in weights.values()]):
        raise BadArgument(weights)


def check_weights_by(steps, weights):
    """Raises for what is no steps, or no weights of sizes up to their greatest room."""
    check_steps(steps)
    check_weights(weights)
    if max(list(weights)) > steps.most:
        raise BadArgument(weights)


def loss(steps, size):
    """The loss of a size, or None."""
    check_steps(steps)
    need = steps.need(size)
    return None if need is None else steps.bounds[need - 1] - size


def losses(steps, sizes):
    """A dict from the told sizes, ascending, to their losses, or None."""
    check_steps(steps)
    check_sizes(sizes)
    if max(list(sizes)) > steps.most:
        raise BadArgument(sizes)
    return {size: loss(steps, size) for size in sorted(sizes)}


def greatest_loss(steps, sizes):
    """The greatest loss of the told sizes, or None if they are not served."""
    told = list(losses(steps, sizes).values())
    return None if None in told else max(told)


def sum_of_losses(steps, weights):
    """The sum of the losses, each multiplied by its weight, or None if the sizes are not served."""
    check_weights_by(steps, weights)
    told = losses(steps, list(weights))
    if None in list(told.values()):
        return None
    return sum([told[size] * weight for size, weight in weights.items()])


def idle_room(steps, size):
    """The greatest true room that all pages of an exact tree can have so that a search finds nothing."""
    check_steps(steps)
    need = steps.need(size)
    return steps.most if need is None else steps.bounds[need - 1] - 1


def is_idle(steps, rooms, size):
    """Whether a search for a size finds nothing on the exact tree of the rooms."""
    check_steps(steps)
    if not are_rooms(rooms, steps.most):
        raise BadRooms(rooms)
    return max(list(rooms)) <= idle_room(steps, size)


def idle_tree(steps, size, pages):
    """An exact tree with so many pages, all with the idle room, and these rooms."""
    room = idle_room(steps, size)
    if not is_page_count(pages):
        raise BadPage(pages)
    rooms = [room] * pages
    return (Tree.exact(steps, rooms), rooms)
