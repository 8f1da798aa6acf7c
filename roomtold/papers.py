"""Miss papers: one deed on the least tree that shows that a setting misses."""

from roomtold.disks import Disk
from roomtold.settings import can_leave, check_setting, crashed, deed_row, done_part
from roomtold.steps import is_integer
from roomtold.trees import Tree, are_told

# The least tree, of two pages and one class: what its three nodes can be told, ascending.
LEAST_TOLD = ((0, 0, 0), (0, 0, 1), (0, 1, 0), (0, 1, 1), (1, 0, 0), (1, 0, 1), (1, 1, 0), (1, 1, 1))
# The words stand in their order, too.
DEEDS = {"lower": ("lower", 0, 0), "raise": ("raise", 0, 1)}


def _is_least_told(value):
    """Whether any value is a tuple of told classes of the least tree."""
    return isinstance(value, tuple) and are_told(value, 1) and len(value) == len(LEAST_TOLD[0])


def is_miss_paper(setting, value):
    """Whether any value is a miss paper of a setting."""
    check_setting(setting)
    if not isinstance(value, tuple) or len(value) != 4:
        return False
    beginning, word, done, told = value
    if not _is_least_told(beginning) or not isinstance(word, str) or word not in DEEDS or not _is_least_told(told):
        return False
    tree = Tree(1, beginning)
    if not tree.is_upright or not is_integer(done, 1, len(deed_row(setting, tree, DEEDS[word]))):
        return False
    disk = done_part(setting, Disk(tree), DEEDS[word], done)
    if not can_leave(setting, disk, told):
        return False
    return len(crashed(setting, disk, told).now.missed()) > 0


def miss_papers(setting):
    """All miss papers of a setting, ascending."""
    check_setting(setting)
    for beginning in LEAST_TOLD:
        for word in DEEDS:
            # A deed writes the leaf and the root at most.
            for done in (1, 2):
                for told in LEAST_TOLD:
                    if is_miss_paper(setting, (beginning, word, done, told)):
                        yield (beginning, word, done, told)


def miss_paper(setting):
    """A miss paper of a setting, or None."""
    papers = list(miss_papers(setting))
    return papers[0] if papers else None
