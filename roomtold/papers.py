"""Miss papers: one deed on the least tree that shows that a setting misses."""

from roomtold.disks import Disk
from roomtold.settings import can_leave, check_setting, crashed, deed_row, done_part
from roomtold.steps import is_integer
from roomtold.trees import NODES, Tree, are_told

DEEDS = {"raise": ("raise", 0, 1), "lower": ("lower", 0, 0)}
# All upright beginnings from which a deed writes both the root and the leaf. Where it writes but one of them, the tree
# is upright ahead of the write and behind it, so that no crash leaves another.
BEGINNINGS = (((0, 0, 0), "raise"), ((1, 1, 0), "lower"))


def _is_least_told(value):
    """Whether any value is a tuple of told classes of the least tree."""
    return isinstance(value, tuple) and are_told(value, 1) and len(value) == NODES[0]


def is_miss_paper(setting, value):
    """Whether any value is a miss paper of a setting."""
    check_setting(setting)
    if not isinstance(value, tuple) or len(value) != 4:
        return False
    beginning, word, done, told = value
    if not _is_least_told(beginning) or not isinstance(word, str) or word not in DEEDS or not _is_least_told(told):
        return False
    tree = Tree(1, beginning)
    if not tree.is_upright or not is_integer(done, 1, len(deed_row(setting, tree, DEEDS[word]))):
        return False
    disk = done_part(setting, Disk(tree), DEEDS[word], done)
    if not can_leave(setting, disk, told):
        return False
    return len(crashed(setting, disk, told).now.missed()) > 0


def miss_papers(setting):
    """All miss papers of a setting, ascending."""
    check_setting(setting)
    # No other setting has one, and one that misses does not mend.
    if not setting.misses:
        return
    for beginning, word in BEGINNINGS:
        disk = Disk(Tree(1, beginning))
        for done in (1, 2):
            part = done_part(setting, disk, DEEDS[word], done)
            for told in sorted([tuple(tree.told) for tree in part.trees(setting.order)]):
                # On the least tree a way is the root and a leaf.
                if max(told) > told[0]:
                    yield (beginning, word, done, told)


def miss_paper(setting):
    """A miss paper of a setting, or None."""
    for paper in miss_papers(setting):
        return paper
    return None
