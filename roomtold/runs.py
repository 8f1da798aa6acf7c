"""Runs: deeds, flushes, crashes and cuts, one behind the other."""

from roomtold.disks import Disk
from roomtold.errors import BadArgument
from roomtold.settings import can_leave, check_setting, crashed, deed_row, done_part, done_whole, is_deed
from roomtold.steps import is_integer
from roomtold.trees import Tree, check_tree
from roomtold.writes import written


def _behind_crash(setting, disk, told):
    """The disk behind a crash, or None if told is no tuple of what it can leave."""
    if not isinstance(told, tuple) or not can_leave(setting, disk, told):
        return None
    return crashed(setting, disk, told)


def _behind_cut(setting, disk, cut):
    """The disk behind a cut, or None if it cannot be made."""
    _, deed, done, told = cut
    if not is_deed(disk.now, deed) or not is_integer(done, 1, len(deed_row(setting, disk.now, deed))):
        return None
    return _behind_crash(setting, done_part(setting, disk, deed, done), told)


def _word(part):
    """The word with which a part of a run begins, or None for what cannot be one."""
    if not isinstance(part, tuple) or len(part) == 0 or not isinstance(part[0], str):
        return None
    return part[0]


def _behind_part(setting, disk, part):
    """The disk behind a part of a run, or None for any value that is no part of one there."""
    word = _word(part)
    if word == "flush" and len(part) == 1:
        return disk.with_flush()
    if word == "crash" and len(part) == 2:
        return _behind_crash(setting, disk, part[1])
    if word == "cut" and len(part) == 4:
        return _behind_cut(setting, disk, part)
    if is_deed(disk.now, part):
        return done_whole(setting, disk, part)
    return None


def _end(setting, tree, value):
    """The disk behind a run, or None for any value that is none."""
    check_setting(setting)
    check_tree(tree)
    if not tree.is_upright or not isinstance(value, list):
        return None
    disk = Disk(tree)
    for part in value:
        disk = _behind_part(setting, disk, part)
        if disk is None:
            return None
    return disk


def is_run(setting, tree, value):
    """Whether any value is a run of a setting on a tree."""
    return _end(setting, tree, value) is not None


def run_end(setting, tree, run):
    """The disk behind a run."""
    disk = _end(setting, tree, run)
    if disk is None:
        raise BadArgument(run)
    return disk


def shows_miss(setting, tree, value):
    """Whether any value is a run that ends with a crash or a cut behind which a page is missed."""
    disk = _end(setting, tree, value)
    if disk is None or len(value) == 0 or _word(value[-1]) not in ("crash", "cut"):
        return False
    return len(disk.now.missed()) > 0


def _missing_cut(setting, tree, deed):
    """A cut of a deed behind which a page is missed, or None."""
    for done in range(1, len(deed_row(setting, tree, deed)) + 1):
        left = done_part(setting, Disk(tree), deed, done).missing(setting.order)
        if left is not None:
            return ("cut", deed, done, tuple(left.told))
    return None


def miss_run(setting, classes, pages):
    """A tree with so many classes and pages, and a run on it that shows a miss, or None."""
    check_setting(setting)
    empty = Tree.flat(classes, pages, 0)
    if not setting.misses:
        return None
    cut = _missing_cut(setting, empty, ("raise", 0, 1))
    if cut is not None:
        return (empty, [cut])
    # No raising shows it, so a lowering does, of a page whose way it writes up to the root.
    single = written(empty, [(node, 1) for node in empty.way(0)])
    return (single, [_missing_cut(setting, single, ("lower", 0, 0))])
