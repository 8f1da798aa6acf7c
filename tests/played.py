"""What the document tells, played step by step over plain lists, for the tests to hold the program against.

Told classes stand here in a list at the places of their nodes, from 1 on; place 0 is None.
"""

import itertools


def plain(tree):
    return [None] + tree.told


def way(told, page):
    nodes = [len(told) // 2 + page]
    while nodes[0] > 1:
        nodes.insert(0, nodes[0] // 2)
    return nodes


def misses(told, page):
    nodes = way(told, page)
    return any(told[nodes[-1]] > told[node] for node in nodes)


def missed(told):
    return [page for page in range(len(told) // 2) if misses(told, page)]


def mend(told):
    told = list(told)
    for node in range(len(told) // 2 - 1, 0, -1):
        told[node] = max(told[2 * node], told[2 * node + 1])
    return told


def raise_page(told, page, target, above):
    """The row of a raising; told is changed."""
    row = []
    nodes = way(told, page)
    for node in nodes if above else reversed(nodes):
        if told[node] < target:
            told[node] = target
            row.append((node, target))
    return row


def lower_node(told, node, target, above=False):
    """The row of a lowering; told is changed."""
    row = []
    if target < told[node]:
        told[node] = target
        row.append((node, target))
        while node > 1:
            node //= 2
            greater = max(told[2 * node], told[2 * node + 1])
            if told[node] > greater:
                told[node] = greater
                row.append((node, greater))
    if above:
        row.reverse()
    return row


def class_of(bounds, room):
    return sum(bound <= room for bound in bounds)


def search(told, bounds, rooms, size, above=False):
    """A tuple (parts, row, told behind) of a search."""
    told, parts, row = list(told), [], []
    needs = [at for at, bound in enumerate(bounds, 1) if bound >= size]
    while needs and told[1] >= needs[0]:
        node = 1
        parts.append(("node", 1))
        while node < len(told) // 2:
            if told[2 * node] >= needs[0]:
                node = 2 * node
            elif told[2 * node + 1] >= needs[0]:
                node = 2 * node + 1
            else:
                break
            parts.append(("node", node))
        if node < len(told) // 2:
            target = max(told[2 * node], told[2 * node + 1])
        else:
            page = node - len(told) // 2
            parts.append(("look", page))
            if rooms[page] >= size:
                return parts + [("found", page)], row, told
            target = class_of(bounds, rooms[page])
        parts.append(("lower", node, target))
        row += lower_node(told, node, target, above)
    return parts + [("nothing",)], row, told


def in_order(flushed, pending):
    """The unlike trees behind the first writes, in the document's order, without place 0."""
    told = list(flushed)
    every = [tuple(told[1:])]
    for node, other in pending:
        told[node] = other
        if tuple(told[1:]) not in every:
            every.append(tuple(told[1:]))
    return every


def anyhow(flushed, pending):
    """The unlike trees that each node by itself can make, ascending, without place 0."""
    choices = [sorted({flushed[node]} | {other for at, other in pending if at == node})
               for node in range(1, len(flushed))]
    return list(itertools.product(*choices))


def can_have(flushed, pending, order):
    return in_order(flushed, pending) if order == "in order" else anyhow(flushed, pending)


def exact(bounds, rooms):
    leaves = [class_of(bounds, room) for room in rooms]
    return mend([None] + [0] * (len(rooms) - 1) + leaves)


class PlayedTable:
    """A live table over plain lists, with copies of all that was ahead of each change."""

    def __init__(self, bounds, rooms, setting, drops="at once"):
        self.bounds, self.setting, self.drops = bounds, setting, drops
        told = exact(bounds, rooms)
        self.state = {"rooms": list(rooms), "now": told, "flushed": list(told), "pending": []}
        self.past, self.future = [], []

    def change(self):
        """Ahead of a change: what is now is kept."""
        self.past.append({name: list(part) for name, part in self.state.items()})
        self.future = []

    def write(self, row, early):
        for node, told in row:
            self.state["now"][node] = told
            self.state["pending"].append((node, told))
            if early:
                self.flush_all()

    def flush_all(self):
        self.state["flushed"], self.state["pending"] = list(self.state["now"]), []

    def raised(self, page, told):
        row = raise_page(list(self.state["now"]), page, told, self.setting.raises == "above")
        self.write(row, self.setting.flush_raises)

    def lowered(self, node, told):
        row = lower_node(list(self.state["now"]), node, told, self.setting.lowers == "above")
        self.write(row, self.setting.flush_lowers)

    def put(self, size):
        self.change()
        rooms, now = self.state["rooms"], self.state["now"]
        for part in search(now, self.bounds, rooms, size)[0]:
            if part[0] == "lower":
                self.lowered(part[1], part[2])
            if part[0] == "found":
                rooms[part[1]] -= size
                self.lowered(len(rooms) + part[1], class_of(self.bounds, rooms[part[1]]))
                return part[1]
        return None

    def drop(self, page, more):
        self.change()
        rooms = self.state["rooms"]
        rooms[page] += more
        told = class_of(self.bounds, rooms[page])
        if self.drops == "at once" and self.state["now"][len(rooms) + page] < told:
            self.raised(page, told)

    def clean(self):
        self.change()
        rooms = self.state["rooms"]
        for page, room in enumerate(rooms):
            leaf, told = len(rooms) + page, class_of(self.bounds, room)
            if self.state["now"][leaf] < told:
                self.raised(page, told)
            elif self.state["now"][leaf] > told:
                self.lowered(leaf, told)

    def flush(self):
        self.change()
        self.flush_all()

    def crash(self, told):
        self.change()
        left = [None, *told]
        self.state["now"] = mend(left) if self.setting.mends else left
        self.flush_all()

    def undo(self):
        self.future.append(self.state)
        self.state = self.past.pop()

    def redo(self):
        self.past.append(self.state)
        self.state = self.future.pop()

    def can_have(self):
        return can_have(self.state["flushed"], self.state["pending"], self.setting.order)

    def hidden(self):
        rooms, now = self.state["rooms"], self.state["now"]
        return sum(room for page, room in enumerate(rooms) if now[len(rooms) + page] < class_of(self.bounds, room))
