"""Settings: the rules by which deeds are written, and what crashes leave of them."""

from roomtold.disks import ORDERS, Disk, is_order
from roomtold.errors import BadArgument, BadChange, BadNumber, BadSetting
from roomtold.steps import is_integer
from roomtold.trees import Tree, are_told, check_tree
from roomtold.writes import is_answer, lowering, raising

SIDES = ("above", "below")
ANSWERS = (False, True)
WORDS = ("raise", "lower")


def _is_side(value):
    return isinstance(value, str) and value in SIDES


class Setting:
    """A rule of writing."""

    def __init__(self, *, raises="above", lowers="below", flush_raises=False, flush_lowers=False, order="in order",
                 mends=False):
        if not _is_side(raises):
            raise BadSetting("raises")
        if not _is_side(lowers):
            raise BadSetting("lowers")
        if not is_answer(flush_raises):
            raise BadSetting("flush_raises")
        if not is_answer(flush_lowers):
            raise BadSetting("flush_lowers")
        if not is_order(order):
            raise BadSetting("order")
        if not is_answer(mends):
            raise BadSetting("mends")
        self.raises = raises
        self.lowers = lowers
        self.flush_raises = flush_raises
        self.flush_lowers = flush_lowers
        self.order = order
        self.mends = mends

    @staticmethod
    def every():
        """All 64 settings, ascending by the tuples of their parts."""
        return [
            Setting(raises=raises, lowers=lowers, flush_raises=flush_raises, flush_lowers=flush_lowers, order=order,
                    mends=mends)
            for raises in SIDES for lowers in SIDES for flush_raises in ANSWERS for flush_lowers in ANSWERS
            for order in ORDERS for mends in ANSWERS
        ]

    @property
    def misses(self):
        """Whether some deeds and crashes lead from an upright tree to one that misses a page."""
        if self.mends:
            return False
        if self.raises == "below" or self.lowers == "above":
            return True
        return self.order == "anyhow" and not (self.flush_raises and self.flush_lowers)

    def changed(self, *, raises=None, lowers=None, flush_raises=None, flush_lowers=None, order=None, mends=None):
        """The setting with other parts; None leaves a part as it is."""
        return Setting(
            raises=self.raises if raises is None else raises,
            lowers=self.lowers if lowers is None else lowers,
            flush_raises=self.flush_raises if flush_raises is None else flush_raises,
            flush_lowers=self.flush_lowers if flush_lowers is None else flush_lowers,
            order=self.order if order is None else order,
            mends=self.mends if mends is None else mends,
        )

    def __eq__(self, other):
        if not isinstance(other, Setting) or self.raises != other.raises or self.lowers != other.lowers:
            return False
        if self.flush_raises != other.flush_raises or self.flush_lowers != other.flush_lowers:
            return False
        return self.order == other.order and self.mends == other.mends


def check_setting(setting):
    """Raises for what is no setting."""
    if not isinstance(setting, Setting):
        raise BadArgument(setting)


def _check_disk(disk):
    if not isinstance(disk, Disk):
        raise BadArgument(disk)


def is_deed(tree, value):
    """Whether any value is a deed of a tree."""
    if not isinstance(value, tuple) or len(value) != 3:
        return False
    word, page, told = value
    if not isinstance(word, str) or word not in WORDS:
        return False
    return is_integer(page, 0, len(tree) - 1) and is_integer(told, 0, tree.classes)


def can_leave(setting, disk, value):
    """Whether any value is a list or tuple of the told classes of a tree that a crash can leave."""
    classes = disk.now.classes
    return are_told(value, classes) and disk.can_have(Tree(classes, value), setting.order)


def deed_row(setting, tree, deed):
    """The row of writes of a deed, as the setting tells."""
    check_setting(setting)
    check_tree(tree)
    if not is_deed(tree, deed):
        raise BadChange(deed)
    word, page, told = deed
    if word == "raise":
        return raising(tree, page, told, above=setting.raises == "above")
    return lowering(tree, tree.leaf(page), told, above=setting.lowers == "above")


def _checked_row(setting, disk, deed):
    """The row of writes of a deed on a disk; raises for what is no setting, no disk or no deed."""
    check_setting(setting)
    _check_disk(disk)
    return deed_row(setting, disk.now, deed)


def _flushes(setting, deed):
    """Whether all is flushed behind each write of a deed."""
    return setting.flush_raises if deed[0] == "raise" else setting.flush_lowers


def behind_row(disk, row, flushes):
    """The disk behind a row of writes, with a flush behind each of them or without."""
    # Without a write there is none that a flush could stand behind.
    if row and flushes:
        return disk.with_row(row).with_flush()
    return disk.with_row(row)


def done_whole(setting, disk, deed):
    """The disk behind a whole deed."""
    row = _checked_row(setting, disk, deed)
    return behind_row(disk, row, _flushes(setting, deed))


def done_part(setting, disk, deed, done):
    """The disk behind the first writes of a deed, ahead of the flush of the last one of them."""
    row = _checked_row(setting, disk, deed)
    if not is_integer(done, 1, len(row)):
        raise BadNumber(done)
    # What was written ahead of the deed is flushed with its first write, not sooner.
    if done > 1 and _flushes(setting, deed):
        return disk.with_row(row[:done - 1]).with_flush().with_row(row[done - 1:done])
    return disk.with_row(row[:done])


def crashed(setting, disk, told):
    """The disk behind a crash that leaves the tree of these told classes, and behind its mending."""
    check_setting(setting)
    _check_disk(disk)
    if not can_leave(setting, disk, told):
        raise BadArgument(told)
    tree = Tree(disk.now.classes, told)
    return Disk(tree.mended() if setting.mends else tree)
