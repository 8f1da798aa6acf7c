"""What the document tells, played step by step over plain lists, for the tests to hold the program against.

Told classes stand here in a list at the places of their nodes, from 1 on; place 0 is None.
"""

import itertools


def plain(tree):
    return [None] + tree.told


def way(told, page):
    nodes = [len(told) // 2 + page]
    while nodes[0] > 1:
        nodes.insert(0, nodes[0] // 2)
    return nodes


def misses(told, page):
    nodes = way(told, page)
    return any(told[nodes[-1]] > told[node] for node in nodes)


def missed(told):
    return [page for page in range(len(told) // 2) if misses(told, page)]


def mend(told):
    told = list(told)
    for node in range(len(told) // 2 - 1, 0, -1):
        told[node] = max(told[2 * node], told[2 * node + 1])
    return told


def raise_page(told, page, target, above):
    """The row of a raising; told is changed."""
    row = []
    nodes = way(told, page)
    for node in nodes if above else reversed(nodes):
        if told[node] < target:
            told[node] = target
            row.append((node, target))
    return row


def lower_node(told, node, target, above=False):
    """The row of a lowering; told is changed."""
    row = []
    if target < told[node]:
        told[node] = target
        row.append((node, target))
        while node > 1:
            node //= 2
            greater = max(told[2 * node], told[2 * node + 1])
            if told[node] > greater:
                told[node] = greater
                row.append((node, greater))
    if above:
        row.reverse()
    return row


def class_of(bounds, room):
    return sum(bound <= room for bound in bounds)


def search(told, bounds, rooms, size, above=False):
    """A tuple (parts, row, told behind) of a search."""
    told, parts, row = list(told), [], []
    needs = [at for at, bound in enumerate(bounds, 1) if bound >= size]
    while needs and told[1] >= needs[0]:
        node = 1
        parts.append(("node", 1))
        while node < len(told) // 2:
            if told[2 * node] >= needs[0]:
                node = 2 * node
            elif told[2 * node + 1] >= needs[0]:
                node = 2 * node + 1
            else:
                break
            parts.append(("node", node))
        if node < len(told) // 2:
            target = max(told[2 * node], told[2 * node + 1])
        else:
            page = node - len(told) // 2
            parts.append(("look", page))
            if rooms[page] >= size:
                return parts + [("found", page)], row, told
            target = class_of(bounds, rooms[page])
        parts.append(("lower", node, target))
        row += lower_node(told, node, target, above)
    return parts + [("nothing",)], row, told


def in_order(flushed, pending):
    """The unlike trees behind the first writes, in the document's order, without place 0."""
    told = list(flushed)
    every = [tuple(told[1:])]
    for node, other in pending:
        told[node] = other
        if tuple(told[1:]) not in every:
            every.append(tuple(told[1:]))
    return every


def anyhow(flushed, pending):
    """The unlike trees that each node by itself can make, ascending, without place 0."""
    choices = [sorted({flushed[node]} | {other for at, other in pending if at == node})
               for node in range(1, len(flushed))]
    return list(itertools.product(*choices))


def can_have(flushed, pending, order):
    return in_order(flushed, pending) if order == "in order" else anyhow(flushed, pending)
