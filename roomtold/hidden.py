"""Hidden room: true room that leaves tell too low, and the cleaning that tells it again."""

from roomtold.settings import Setting, deed_row
from roomtold.trees import check_rooms
from roomtold.writes import written


def hidden_pages(tree, steps, rooms):
    """The pages whose leaf is told less than the class of their true room."""
    check_rooms(tree, steps, rooms)
    return [page for page, room in enumerate(rooms) if tree[tree.leaf(page)] < steps.class_of(room)]


def hidden_room(tree, steps, rooms):
    """The sum of the true rooms of the hidden pages."""
    return sum([rooms[page] for page in hidden_pages(tree, steps, rooms)])


def clean_deeds(tree, steps, rooms):
    """The deeds of a cleaning, in order."""
    check_rooms(tree, steps, rooms)
    deeds = []
    for page, room in enumerate(rooms):
        told = tree[tree.leaf(page)]
        true_class = steps.class_of(room)
        if told < true_class:
            deeds.append(("raise", page, true_class))
        elif told > true_class:
            deeds.append(("lower", page, true_class))
    return deeds


def cleaned(tree, steps, rooms):
    """The tree behind a cleaning."""
    now = tree
    # A deed that is done whole leaves the same tree by each setting.
    for deed in clean_deeds(tree, steps, rooms):
        now = written(now, deed_row(Setting(), now, deed))
    return now
