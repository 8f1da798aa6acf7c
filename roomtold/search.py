"""Searches: down the tree for a page with room enough, putting right what led astray."""

from roomtold.errors import BadArgument
from roomtold.steps import are_integers
from roomtold.trees import check_rooms
from roomtold.writes import is_answer, lowering, written


def _need(tree, steps, rooms, size):
    """The need of a size, or None; raises for what cannot be searched."""
    check_rooms(tree, steps, rooms)
    return steps.need(size)


def _seen_pages(tree, need):
    """The pages whose whole ways are told the need or more: a search comes to no others."""
    if need is None:
        return []
    return [page for page in range(len(tree)) if min([tree[node] for node in tree.way(page)]) >= need]


def good_pages(tree, steps, rooms, size):
    """The pages that a search can find."""
    need = _need(tree, steps, rooms, size)
    return [page for page in _seen_pages(tree, need) if rooms[page] >= size]


def found(tree, steps, rooms, size):
    """The page that a search finds, told by the ways alone, or None."""
    good = good_pages(tree, steps, rooms, size)
    return good[0] if good else None


def looked_at(tree, steps, rooms, size):
    """The pages that a search looks at, told by the ways alone."""
    need = _need(tree, steps, rooms, size)
    pages = []
    for page in _seen_pages(tree, need):
        pages.append(page)
        if rooms[page] >= size:
            return pages
    return pages


def out_of_sight(tree, steps, rooms, size):
    """The pages with room enough that a search cannot find, though the size has a need."""
    if _need(tree, steps, rooms, size) is None:
        return []
    good = good_pages(tree, steps, rooms, size)
    return [page for page, room in enumerate(rooms) if room >= size and page not in good]


def _descent(tree, need):
    """The nodes that a search comes to from the root, until it is at a leaf or led astray."""
    way = [1]
    while way[-1] < len(tree):
        children = (2 * way[-1], 2 * way[-1] + 1)
        enough = [child for child in children if tree[child] >= need]
        if not enough:
            return way
        way.append(enough[0])
    return way


def going(tree, steps, rooms, size):
    """What a search does, one tuple behind the other."""
    need = _need(tree, steps, rooms, size)
    # The caller may change the rooms between two tuples.
    true_rooms = list(rooms)
    now = tree
    while need is not None and now[1] >= need:
        way = _descent(now, need)
        for node in way:
            yield ("node", node)
        last = way[-1]
        if last < len(now):
            told = now.greater(last)
        else:
            page = last - len(now)
            yield ("look", page)
            if true_rooms[page] >= size:
                yield ("found", page)
                return
            told = steps.class_of(true_rooms[page])
        yield ("lower", last, told)
        now = written(now, lowering(now, last, told))
    yield ("nothing",)


def search_row(tree, steps, rooms, size, *, above=False):
    """The row of all writes of the lowerings of a search."""
    _need(tree, steps, rooms, size)
    if not is_answer(above):
        raise BadArgument(above)
    row = []
    now = tree
    for part in going(tree, steps, rooms, size):
        if part[0] == "lower":
            writes = lowering(now, part[1], part[2], above=above)
            row.extend(writes)
            now = written(now, writes)
    return row


def behind(tree, steps, rooms, size):
    """The tree behind a search."""
    return written(tree, search_row(tree, steps, rooms, size))


def searches(tree, steps, rooms, sizes):
    """The pages that searches one behind the other find, and the tree behind all."""
    check_rooms(tree, steps, rooms)
    if not are_integers(sizes, 1, steps.most):
        raise BadArgument(sizes)
    pages = []
    now = tree
    for size in sizes:
        pages.append(found(now, steps, rooms, size))
        now = behind(now, steps, rooms, size)
    return (pages, now)
