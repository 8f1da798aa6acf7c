"""Live tables: true rooms, and a disk with the tree that tells of them."""

from roomtold.disks import Disk
from roomtold.errors import BadArgument, BadNumber, BadPage
from roomtold.hidden import clean_deeds, hidden_room
from roomtold.history import History, Trial
from roomtold.search import found, search_row
from roomtold.settings import behind_row, check_setting, crashed, done_whole
from roomtold.steps import is_integer
from roomtold.trees import Tree

DROPS = ("at once", "late")


def _check_drops(value):
    if not isinstance(value, str) or value not in DROPS:
        raise BadArgument(value)


def _check_page(page, rooms):
    if not is_integer(page, 0, len(rooms) - 1):
        raise BadPage(page)


def _with_room(rooms, page, room):
    """The rooms with another one of a page."""
    return rooms[:page] + (room,) + rooms[page + 1:]


class Table:
    """True rooms and a disk, both changed by puts, drops, cleans, flushes and crashes."""

    def __init__(self, steps, rooms, setting, *, drops="at once"):
        # The tree tells apart what is no steps or no rooms.
        tree = Tree.exact(steps, rooms)
        check_setting(setting)
        _check_drops(drops)
        self._steps = steps
        self._setting = setting
        # How drops are told is no part of the state: undo does not give it back.
        self._history = History((tuple(rooms), Disk(tree)), drops)

    @property
    def steps(self):
        """The steps."""
        return self._steps

    @property
    def setting(self):
        """The setting."""
        return self._setting

    @property
    def rooms(self):
        """The true rooms, as a list of the caller's own."""
        return list(self._history.state[0])

    @property
    def disk(self):
        """The disk."""
        return self._history.state[1]

    @property
    def tree(self):
        """The tree as it is written now."""
        return self._history.state[1].now

    @property
    def drops(self):
        """Whether drops are told at once or late."""
        return self._history.beside

    @drops.setter
    def drops(self, value):
        _check_drops(value)
        history = self._history
        history.beside = value

    def __len__(self):
        return len(self._history.past)

    def __getitem__(self, page):
        rooms = self._history.state[0]
        _check_page(page, rooms)
        return rooms[page]

    def __iter__(self):
        # Without this Python would go over the table by its pages from 0 on.
        raise TypeError("a table is not iterated over")

    def put(self, size):
        """Puts a size on the page that a search finds; the page, or None."""
        rooms, disk = self._history.state
        setting = self._setting
        page = found(disk.now, self._steps, rooms, size)
        row = search_row(disk.now, self._steps, rooms, size, above=setting.lowers == "above")
        disk = behind_row(disk, row, setting.flush_lowers)
        if page is not None:
            rooms = _with_room(rooms, page, rooms[page] - size)
            # The leaf stays if it is told no more than this.
            disk = done_whole(setting, disk, ("lower", page, self._steps.class_of(rooms[page])))
        self._history.change((rooms, disk))
        return page

    def drop(self, page, more):
        """Gives a page more true room, and tells it at once or not."""
        rooms, disk = self._history.state
        _check_page(page, rooms)
        if not is_integer(more, 1, self._steps.most - rooms[page]):
            raise BadNumber(more)
        rooms = _with_room(rooms, page, rooms[page] + more)
        told = self._steps.class_of(rooms[page])
        # A leaf that is told as much is not raised, even where nodes above it are told less.
        if self._history.beside == "at once" and told > disk.now[disk.now.leaf(page)]:
            disk = done_whole(self._setting, disk, ("raise", page, told))
        self._history.change((rooms, disk))

    def clean(self):
        """Tells the leaves the classes of the true rooms."""
        rooms, disk = self._history.state
        deeds = clean_deeds(disk.now, self._steps, rooms)
        for deed in deeds:
            disk = done_whole(self._setting, disk, deed)
        self._history.change((rooms, disk))

    def flush(self):
        """Puts all that is written on the disk."""
        rooms, disk = self._history.state
        self._history.change((rooms, disk.with_flush()))

    def crash(self, told):
        """A crash with which the disk has the tree of these told classes, and its mending."""
        rooms, disk = self._history.state
        self._history.change((rooms, crashed(self._setting, disk, told)))

    def hidden(self):
        """The hidden room."""
        rooms, disk = self._history.state
        return hidden_room(disk.now, self._steps, rooms)

    def undo(self):
        """Takes the last change back."""
        self._history.undo()

    def redo(self):
        """Makes the change again that was taken back last."""
        self._history.redo()

    def trial(self):
        """A context: if an error leaves its block, all is as it was ahead of it."""
        return Trial(self, self._history)

    def __eq__(self, other):
        if not isinstance(other, Table) or self._steps != other._steps or self._setting != other._setting:
            return False
        return self._history.state == other._history.state and self._history.beside == other._history.beside
