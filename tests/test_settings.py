"""Promise 10: settings, deeds and crashes; with promise 2, as far as it speaks of them."""

import itertools
import random
import unittest

from roomtold.disks import Disk
from roomtold.errors import BadArgument, BadChange, BadNumber, BadSetting
from roomtold.settings import Setting, crashed, deed_row, done_part, done_whole
from roomtold.steps import Steps
from roomtold.trees import Tree
from tests import played
from tests.checks import Case
from tests.odd import NO_ANSWERS, NO_INTEGERS, NO_OBJECTS, NO_ROWS, NO_WORDS, EqualToAll, Falling
from tests.samples import STALE, all_trees, least_trees, stale_tree, upright_tree

PARTS = ["raises", "lowers", "flush_raises", "flush_lowers", "order", "mends"]
RIGHT = {
    "raises": ["above", "below"], "lowers": ["above", "below"], "flush_raises": [False, True],
    "flush_lowers": [False, True], "order": ["anyhow", "in order"], "mends": [False, True],
}
WRONG = {
    "raises": NO_WORDS + ["in order", "anyhow", True], "lowers": NO_WORDS + ["in order", "raise"],
    "flush_raises": NO_ANSWERS, "flush_lowers": NO_ANSWERS, "order": NO_WORDS + ["above", "below"], "mends": NO_ANSWERS,
}
# Of trees with four pages and three classes: neither deeds nor, in a run, other parts.
NO_PARTS = NO_OBJECTS + [
    (), ("raise",), ("raise", 0), ("raise", 0, 1, 0), ["raise", 0, 1], ("Raise", 0, 1), ("put", 0, 1), (b"raise", 0, 1),
    (None, 0, 1), (EqualToAll(), 0, 1), (Falling(), 0, 1), (0, "raise", 1), (["raise"], 0, 1), ({}, 0, 1),
    ("raise", 4, 1), ("raise", -1, 1), ("raise", True, 1), ("raise", False, 1), ("raise", 1.0, 1), ("raise", [], 1),
    ("lower", "0", 1), ("raise", EqualToAll(), 1), ("raise", Falling(), 1), ("raise", 10 ** 100, 1), ("lower", 0, 4),
    ("lower", 0, -1), ("lower", 0, True), ("lower", 0, False), ("lower", 0, None), ("raise", 0, EqualToAll()),
    ("raise", 0, Falling()), ("raise", 0, 10 ** 100),
]
NO_DEEDS = NO_PARTS + [("flush",), ("crash", (0, 0, 0)), ("cut", ("raise", 0, 1), 1)]
NO_SETTINGS = NO_OBJECTS + ["in order", Setting, ("above", "below", False, False, "in order", False)]
NO_DISKS = NO_OBJECTS + [Tree(3, STALE), Disk]


def parts_of(setting):
    return tuple(getattr(setting, part) for part in PARTS)


def misses(setting):
    """What the document says of it."""
    unsure = setting.order == "anyhow" and not (setting.flush_raises and setting.flush_lowers)
    return not setting.mends and (setting.raises == "below" or setting.lowers == "above" or unsure)


def row_of(setting, tree, deed):
    word, page, told = deed
    if word == "raise":
        return played.raise_page(played.plain(tree), page, told, setting.raises == "above")
    return played.lower_node(played.plain(tree), len(tree) + page, told, setting.lowers == "above")


def flushes(setting, deed):
    return setting.flush_raises if deed[0] == "raise" else setting.flush_lowers


def deeds_of(tree):
    return list(itertools.product(["raise", "lower"], range(len(tree)), range(tree.classes + 1)))


class Making(Case):
    def test_what_it_is_by_itself(self):
        self.assertEqual(parts_of(Setting()), ("above", "below", False, False, "in order", False))
        self.assertTrue(set(PARTS) <= set(vars(Setting())))

    def test_parts_as_given(self):
        for values in itertools.product(*RIGHT.values()):
            self.assertEqual(parts_of(Setting(**dict(zip(PARTS, values)))), values)
        self.assertRaises(TypeError, Setting, "above")

    def test_wrong_parts(self):
        for part in PARTS:
            for value in WRONG[part] + [None]:
                self.raises(BadSetting, "part", part, Setting, **{part: value})

    def test_the_first_wrong_part_is_told(self):
        for first, later in itertools.combinations(PARTS, 2):
            for one, other in itertools.product(WRONG[first][:4], WRONG[later][:4]):
                self.raises(BadSetting, "part", first, Setting, **{later: other, first: one})
                self.raises(BadSetting, "part", first, Setting().changed, **{later: other, first: one})
        self.raises(BadSetting, "part", "raises", Setting, **dict.fromkeys(PARTS, 0))

    def test_every_setting_ascending(self):
        every = Setting.every()
        told = [parts_of(setting) for setting in every]
        self.assertIs(every.__class__, list)
        self.assertEqual((len(told), told), (64, sorted(set(itertools.product(*RIGHT.values())))))
        self.assertEqual({setting.__class__ for setting in every}, {Setting})
        every.clear()
        self.assertEqual([len(Setting.every()), len(Setting().every())], [64, 64])

    def test_equality(self):
        for one, other in itertools.product(Setting.every(), Setting.every()):
            self.assertIs(one == other, parts_of(one) == parts_of(other))
            self.assertIs(one != other, parts_of(one) != parts_of(other))
        for value in NO_SETTINGS:
            self.says_false(Setting() == value)
            self.says_true(Setting() != value)
        setting = Setting()
        self.assertEqual(repr(setting), repr(setting))


class Changed(Case):
    def test_each_part(self):
        for setting, part in itertools.product(Setting.every(), PARTS):
            for value in RIGHT[part]:
                other = setting.changed(**{part: value})
                expected = [value if name == part else getattr(setting, name) for name in PARTS]
                self.assertEqual(parts_of(other), tuple(expected))

    def test_none_leaves_it_as_it_is(self):
        for setting in Setting.every():
            self.assertEqual(setting.changed(), setting)
            self.assertEqual(setting.changed(**dict.fromkeys(PARTS)), setting)

    def test_all_parts_at_once(self):
        for one, other in itertools.product(Setting.every()[::7], Setting.every()):
            self.assertEqual(one.changed(**dict(zip(PARTS, parts_of(other)))), other)
            self.assertEqual(one, Setting(**dict(zip(PARTS, parts_of(one)))))

    def test_wrong_parts(self):
        setting = Setting(mends=True)
        for part in PARTS:
            for value in WRONG[part]:
                if value is not None:
                    self.raises(BadSetting, "part", part, setting.changed, **{part: value})
        self.assertEqual(setting, Setting(mends=True))
        self.assertRaises(TypeError, setting.changed, "above")


class Misses(Case):
    def test_as_the_document_says(self):
        for setting in Setting.every():
            self.assertIs(setting.misses, misses(setting))
        self.assertEqual(len([setting for setting in Setting.every() if setting.misses]), 27)

    def test_misses_is_a_property(self):
        with self.assertRaises(AttributeError):
            Setting().misses = True

    def test_by_all_that_deeds_searches_flushes_and_crashes_lead_to(self):
        # On the least trees all that can come is gone through: a setting misses just if a page is missed.
        for setting in Setting.every():
            for classes, pages in ((1, 2), (2, 2), (1, 4)):
                self.assertIs(can_lead_to_a_miss(setting, classes, pages), setting.misses, parts_of(setting))


def can_lead_to_a_miss(setting, classes, pages):
    """Whether some tree behind a crash misses a page, from all upright trees on.

    A state is the tree as it is written now and one of those that a crash can leave of it.
    """
    upright = [tuple(tree.told) for tree in all_trees(classes, pages) if tree.is_upright]
    waiting = [(told, told) for told in upright]
    known = set(waiting)
    while waiting:
        now, left = waiting.pop()
        states = {(now, now)}
        for row, early in rows_of(setting, now, classes):
            states |= behind_row(setting, now, left, row, early)
        for told in {left} | {kept for _, kept in states}:
            told = tuple(played.mend([None, *told])[1:]) if setting.mends else told
            if played.missed([None, *told]):
                return True
            states.add((told, told))
        waiting += states - known
        known |= states
    return False


def behind_row(setting, now, left, row, early):
    """The states behind each write of a row; those within it only as far as a crash comes there."""
    kept, states = {left}, set()
    for node, told in row:
        now = now[:node - 1] + (told,) + now[node:]
        if setting.order == "in order":
            kept = kept | {now}
        else:
            kept = kept | {other[:node - 1] + (told,) + other[node:] for other in kept} | {now}
        crashes = [played.mend([None, *other]) if setting.mends else [None, *other] for other in kept]
        states |= {(tuple(other[1:]), tuple(other[1:])) for other in crashes}
        kept = {now} if early else kept
    return states | {(now, other) for other in kept}


def rows_of(setting, now, classes):
    """The rows of all deeds, and of the lowerings that searches make of nodes that lead astray."""
    pages = (len(now) + 1) // 2
    for page, told in itertools.product(range(pages), range(classes + 1)):
        yield played.raise_page([None, *now], page, told, setting.raises == "above"), setting.flush_raises
        yield played.lower_node([None, *now], pages + page, told, setting.lowers == "above"), setting.flush_lowers
    for node in range(1, pages):
        greater = max(now[2 * node - 1], now[2 * node])
        yield played.lower_node([None, *now], node, greater, setting.lowers == "above"), setting.flush_lowers


class Deeds(Case):
    def test_rows_as_the_setting_tells(self):
        for tree in least_trees():
            for setting in Setting.every()[::5]:
                for deed in deeds_of(tree):
                    self.assertEqual(deed_row(setting, tree, deed), row_of(setting, tree, deed))

    def test_every_setting(self):
        chance = random.Random(101)
        for setting in Setting.every():
            for tree in (stale_tree(chance, 3, 4, 2), stale_tree(chance, 8, 32), upright_tree(chance, 5, 8)):
                deeds = deeds_of(tree)
                for deed in chance.sample(deeds, min(12, len(deeds))):
                    self.assertEqual(deed_row(setting, tree, deed), row_of(setting, tree, deed))

    def test_both_words_that_write_something_and_nothing(self):
        tree = Tree(3, [2, 2, 1, 2, 1, 1, 0])
        above, below = Setting(lowers="above"), Setting(raises="below")
        self.assertEqual(deed_row(above, tree, ("raise", 3, 3)), [(1, 3), (3, 3), (7, 3)])
        self.assertEqual(deed_row(below, tree, ("raise", 3, 3)), [(7, 3), (3, 3), (1, 3)])
        self.assertEqual(deed_row(above, tree, ("lower", 0, 0)), [(1, 1), (2, 1), (4, 0)])
        self.assertEqual(deed_row(below, tree, ("lower", 0, 0)), [(4, 0), (2, 1), (1, 1)])
        for deed in [("raise", 0, 2), ("raise", 1, 0), ("lower", 0, 2), ("lower", 0, 3), ("lower", 3, 0)]:
            self.assertEqual([deed_row(above, tree, deed), deed_row(below, tree, deed)], [[], []])
        self.assertEqual(deed_row(deed=("raise", 3, 1), tree=tree, setting=above), [(7, 1)])

    def test_a_returned_row_belongs_to_the_caller(self):
        tree = Tree(3, STALE)
        deed_row(Setting(), tree, ("raise", 3, 3)).append((1, 1))
        self.assertEqual(deed_row(Setting(), tree, ("raise", 3, 3)), [(1, 3), (3, 3), (7, 3)])

    def test_wrong(self):
        self.wrong(
            deed_row,
            ("setting", Setting(), BadArgument, "value", NO_SETTINGS),
            ("tree", Tree(3, STALE), BadArgument, "value", NO_OBJECTS + [Disk(Tree(3, STALE))]),
            ("deed", ("raise", 0, 1), BadChange, "value", NO_DEEDS),
        )

    def test_page_and_class_of_this_tree(self):
        for classes, pages in itertools.product((1, 8), (2, 32)):
            tree = Tree.flat(classes, pages, 0)
            for word in ("raise", "lower"):
                deed_row(Setting(), tree, (word, pages - 1, classes))
                for deed in [(word, pages, 0), (word, 0, classes + 1)]:
                    self.raises(BadChange, "value", deed, deed_row, Setting(), tree, deed)


class Done(Case):
    def holds(self, setting, disk, deed):
        row = row_of(setting, disk.now, deed)
        early = flushes(setting, deed)
        whole = disk
        for done, write in enumerate(row, 1):
            whole = whole.with_row([write])
            self.assertEqual(done_part(setting, disk, deed, done), whole)
            if early:
                whole = whole.with_flush()
        self.assertEqual(done_whole(setting, disk, deed), whole)
        for done in [0, -1, len(row) + 1, 10 ** 100]:
            self.raises(BadNumber, "number", done, done_part, setting, disk, deed, done)

    def test_each_number_of_writes_with_flushes_and_without(self):
        chance = random.Random(102)
        for setting in Setting.every():
            for classes, pages in ((1, 2), (2, 4), (3, 8), (8, 32)):
                disk = Disk(stale_tree(chance, classes, pages, 1))
                pending = disk.with_row([(1, 0), (2 * pages - 1, 1)])
                deeds = deeds_of(disk.now)
                for deed in chance.sample(deeds, min(8, len(deeds))):
                    self.holds(setting, disk, deed)
                    self.holds(setting, pending, deed)

    def test_flushes_by_the_word(self):
        disk = Disk(Tree(1, [0, 0, 0]))
        raised = [(1, 1), (2, 1)]
        self.assertEqual(done_whole(Setting(), disk, ("raise", 0, 1)).pending, raised)
        self.assertEqual(done_whole(Setting(flush_lowers=True), disk, ("raise", 0, 1)).pending, raised)
        self.assertEqual(done_whole(Setting(flush_raises=True), disk, ("raise", 0, 1)), Disk(Tree(1, [1, 1, 0])))
        part = done_part(Setting(flush_raises=True), disk, ("raise", 0, 1), 2)
        self.assertEqual((part.flushed.told, part.pending), ([1, 0, 0], [(2, 1)]))
        disk = Disk(Tree(1, [1, 1, 0]))
        self.assertEqual(done_whole(Setting(flush_raises=True), disk, ("lower", 0, 0)).pending, [(2, 0), (1, 0)])
        self.assertEqual(done_whole(Setting(flush_lowers=True), disk, ("lower", 0, 0)), Disk(Tree(1, [0, 0, 0])))

    def test_what_was_written_ahead_is_flushed_with_the_first_write_not_sooner(self):
        disk = Disk(Tree(1, [0, 0, 0])).with_row([(1, 1), (3, 1)])
        setting = Setting(flush_raises=True)
        part = done_part(setting, disk, ("raise", 0, 1), 1)
        self.assertEqual((part.flushed.told, part.pending), ([0, 0, 0], [(1, 1), (3, 1), (2, 1)]))
        self.assertEqual(done_whole(setting, disk, ("raise", 0, 1)), Disk(Tree(1, [1, 1, 1])))

    def test_a_deed_that_writes_nothing_flushes_nothing(self):
        disk = Disk(Tree(1, [0, 0, 0])).with_row([(1, 1), (3, 1)])
        setting = Setting(flush_raises=True, flush_lowers=True)
        for deed in [("raise", 1, 1), ("raise", 0, 0), ("lower", 0, 0), ("lower", 1, 1)]:
            self.assertEqual(done_whole(setting, disk, deed), disk)
            self.raises(BadNumber, "number", 1, done_part, setting, disk, deed, 1)

    def test_by_name(self):
        named = {"deed": ("raise", 0, 1), "disk": Disk(Tree(1, [0, 0, 0])), "setting": Setting()}
        self.assertEqual(done_whole(**named).pending, [(1, 1), (2, 1)])
        self.assertEqual(done_part(done=1, **named).pending, [(1, 1)])

    def test_wrong(self):
        rows = (
            ("setting", Setting(), BadArgument, "value", NO_SETTINGS),
            ("disk", Disk(Tree(3, STALE)), BadArgument, "value", NO_DISKS),
            ("deed", ("raise", 0, 3), BadChange, "value", NO_DEEDS),
        )
        self.wrong(done_whole, *rows)
        self.wrong(done_part, *rows, ("done", 3, BadNumber, "number", [0, 4, -1, 10 ** 100] + NO_INTEGERS))


class Crashes(Case):
    def test_trees_that_the_disk_can_have_and_cannot(self):
        chance = random.Random(103)
        for setting in Setting.every():
            for classes, pages in ((1, 2), (2, 2), (1, 4)):
                flushed = stale_tree(chance, classes, pages)
                row = [(chance.randint(1, 2 * pages - 1), chance.randint(0, classes)) for _ in range(4)]
                disk = Disk(flushed).with_row(row)
                have = played.can_have(played.plain(flushed), row, setting.order)
                for tree in all_trees(classes, pages):
                    self.holds(setting, disk, tuple(tree.told), have)

    def holds(self, setting, disk, told, have):
        for given in (told, list(told)):
            if told in have:
                tree = Tree(disk.now.classes, told)
                self.assertEqual(crashed(setting, disk, given), Disk(tree.mended() if setting.mends else tree))
            else:
                self.raises(BadArgument, "value", given, crashed, setting, disk, given)

    def test_mended_or_not(self):
        disk = Disk(Tree(1, [0, 0, 0])).with_row([(2, 1)])
        self.assertEqual(crashed(Setting(), disk, [0, 1, 0]), Disk(Tree(1, [0, 1, 0])))
        self.assertEqual(crashed(Setting(mends=True), disk, (0, 1, 0)), Disk(Tree(1, [1, 1, 0])))
        self.assertEqual(crashed(told=(0, 0, 0), disk=disk, setting=Setting(mends=True)), Disk(Tree(1, [0, 0, 0])))

    def test_given_list_is_neither_kept_nor_changed(self):
        told = [1, 1, 0]
        disk = crashed(Setting(), Disk(Tree(1, [1, 1, 0])), told)
        self.assertEqual(told, [1, 1, 0])
        told[0] = 0
        self.assertEqual(disk.now.told, [1, 1, 0])

    def test_wrong(self):
        told = NO_ROWS + [
            [], (), [1, 1], [1] * 4, [1] * 7, (1, 1, 2), [1, 1, -1], [1, 1, True], (True, 1, 1), [1, 1, 1.0],
            (1, 1, None), [1, 1, "1"], [[1], 1, 1], [EqualToAll(), 1, 1], (1, Falling(), 1), (0, 0, 0), [0, 1, 1],
            Tree(1, [1, 1, 1]), Steps(1, [1]), ("crash", (1, 1, 1)), [[1, 1, 1]],
        ]
        self.wrong(
            crashed,
            ("setting", Setting(), BadArgument, "value", NO_SETTINGS),
            ("disk", Disk(Tree(1, [1, 1, 1])), BadArgument, "value", NO_DISKS),
            ("told", (1, 1, 1), BadArgument, "value", told),
        )

    def test_nothing_given_is_changed(self):
        setting, disk = Setting(flush_raises=True, mends=True), Disk(Tree(1, [0, 0, 0])).with_row([(1, 1), (2, 1)])
        for _ in range(2):
            done_whole(setting, disk, ("raise", 1, 1))
            done_part(setting, disk, ("lower", 0, 0), 2)
            crashed(setting, disk, [1, 0, 0])
        self.assertEqual((disk.now.told, disk.flushed.told), ([1, 1, 0], [0, 0, 0]))
        self.assertEqual(disk.pending, [(1, 1), (2, 1)])
        self.assertEqual(parts_of(setting), ("above", "below", True, False, "in order", True))

    def test_quick_though_the_trees_are_very_many(self):
        disk = Disk(Tree.flat(8, 32, 4)).with_row([(node, told) for told in (0, 8, 2) for node in range(1, 64)])
        setting = Setting(order="anyhow", mends=True)
        self.assertEqual(crashed(setting, disk, [0] * 31 + [8] * 32), Disk(Tree.flat(8, 32, 8)))
        self.assertRaises(BadArgument, crashed, setting, disk, (3,) * 63)


if __name__ == "__main__":
    unittest.main()
