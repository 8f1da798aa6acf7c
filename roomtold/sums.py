"""Best steps by the sum of losses, and the table that shows that none are better."""

from roomtold.best import check_many
from roomtold.losses import check_weights
from roomtold.steps import is_integer


def _costs(weights):
    """In row i, at place h, the sum of losses of the sizes behind the h-th one up to the i-th, by this as the bound."""
    sizes = sorted(weights)
    costs = [[]]
    for last, bound in enumerate(sizes):
        cost = 0
        backward = []
        for size in sizes[last::-1]:
            cost = cost + weights[size] * (bound - size)
            backward.append(cost)
        costs.append(backward[::-1])
    return costs


def sum_table(weights, many):
    """The table of the least sums, for the first sizes and for each number of bounds."""
    check_weights(weights)
    check_many(many)
    costs = _costs(weights)
    table = [[0] * (many + 1)]
    for at in range(1, len(costs)):
        row = [None]
        for k in range(1, many + 1):
            ways = [table[h][k - 1] + cost for h, cost in enumerate(costs[at]) if table[h][k - 1] is not None]
            row.append(min(ways))
        table.append(row)
    return table


def least_sum(weights, many):
    """The least sum of losses by at most so many bounds."""
    return sum_table(weights, many)[-1][-1]


def _with_a_bound_more(ways, sizes, costs):
    """From the best ways (sum, bounds) to serve the first sizes, those with just one bound more."""
    longer = [None]
    for at in range(1, len(costs)):
        choices = []
        for h, cost in enumerate(costs[at]):
            if ways[h] is not None:
                choices.append((ways[h][0] + cost, ways[h][1] + (sizes[at - 1],)))
        longer.append(min(choices) if choices else None)
    return longer


def best_by_sum(weights, many):
    """The best bounds: with the least sum, of these the fewest, of these the least by Python's order."""
    check_weights(weights)
    check_many(many)
    sizes = sorted(weights)
    costs = _costs(weights)
    ways = [(0, ())] + [None] * len(sizes)
    best = None
    for _ in range(min(many, len(sizes))):
        ways = _with_a_bound_more(ways, sizes, costs)
        # With as great a sum the fewer bounds stay.
        if best is None or ways[-1][0] < best[0]:
            best = ways[-1]
    return list(best[1])


def _is_entry(value, entry):
    if entry is None:
        return value is None
    return is_integer(value, entry, entry)


def _is_row(value, row):
    if not isinstance(value, list) or len(value) != len(row):
        return False
    return all([_is_entry(value[k], entry) for k, entry in enumerate(row)])


def shows_table(weights, many, table):
    """Whether any value is the table, entry by entry."""
    right = sum_table(weights, many)
    if not isinstance(table, list) or len(table) != len(right):
        return False
    return all([_is_row(table[at], row) for at, row in enumerate(right)])
