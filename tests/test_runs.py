"""Promises 12 and 1 (b): runs, their ends, and those that show a miss; with promise 2, as far as it speaks of them."""

import itertools
import random
import unittest

from roomtold.disks import Disk
from roomtold.errors import BadArgument, BadPage, BadTree
from roomtold.runs import is_run, miss_run, run_end, shows_miss
from roomtold.settings import Setting, crashed, done_part, done_whole
from roomtold.trees import Tree
from tests import played
from tests.checks import Case
from tests.odd import NO_INTEGERS, NO_OBJECTS, EqualToAll, Falling
from tests.samples import PAGES, STALE, all_trees, stale_tree, upright_tree
from tests.test_settings import NO_DEEDS, NO_PARTS, NO_SETTINGS, deeds_of, flushes, parts_of, row_of

BELOW = Setting(raises="below")
UNSURE = Setting(order="anyhow")
FLAT = Tree.flat(1, 2, 0)
MISSED = [("cut", ("raise", 0, 1), 1, (0, 1, 0))]


def behind_crash(setting, disk, told):
    """The disk behind a crash, by the document's words."""
    have = played.can_have(played.plain(disk.flushed), disk.pending, setting.order)
    assert told in have
    left = [None, *told]
    return Disk(Tree(disk.now.classes, (played.mend(left) if setting.mends else left)[1:]))


def behind_deed(setting, disk, deed, done=None):
    """The disk behind a deed, whole, or ahead of the flush of the last of so many writes."""
    row = row_of(setting, disk.now, deed)
    for at, write in enumerate(row[:done], 1):
        disk = disk.with_row([write])
        if flushes(setting, deed) and at != done:
            disk = disk.with_flush()
    return disk


def some_run(chance, setting, tree, many):
    """A run of so many parts, and the disks ahead of and behind each of them."""
    disks, run = [Disk(tree)], []
    for _ in range(many):
        disk = disks[-1]
        deed = chance.choice(deeds_of(tree))
        writes = len(row_of(setting, disk.now, deed))
        kind = chance.choice(["deed", "deed", "flush", "crash", "cut"])
        if kind == "flush":
            part, disk = ("flush",), disk.with_flush()
        elif kind == "cut" and writes:
            done = chance.randint(1, writes)
            disk = behind_deed(setting, disk, deed, done)
            told = some_told(chance, setting, disk)
            part, disk = ("cut", deed, done, told), behind_crash(setting, disk, told)
        elif kind == "crash":
            told = some_told(chance, setting, disk)
            part, disk = ("crash", told), behind_crash(setting, disk, told)
        else:
            part, disk = deed, behind_deed(setting, disk, deed)
        run.append(part)
        disks.append(disk)
    return run, disks


def some_told(chance, setting, disk):
    # Few enough to be gone through, as the runs are short.
    return chance.choice(played.can_have(played.plain(disk.flushed), disk.pending, setting.order))


class Ends(Case):
    def test_the_parts_one_behind_the_other(self):
        chance = random.Random(121)
        for setting in Setting.every():
            for classes, pages in ((1, 2), (2, 2), (2, 4), (3, 8)):
                tree = upright_tree(chance, classes, pages)
                run, disks = some_run(chance, setting, tree, 6)
                for many in range(len(run) + 1):
                    self.says_true(is_run(setting, tree, run[:many]))
                    self.assertEqual(run_end(setting, tree, run[:many]), disks[many])
                    last = run[many - 1][0] in ("crash", "cut") if many else False
                    misses = last and disks[many].now.missed() != []
                    self.assertIs(shows_miss(setting, tree, run[:many]), misses)

    def test_against_the_calls_for_each_part(self):
        disk = Disk(FLAT)
        run = [("raise", 0, 1), ("flush",), ("raise", 1, 1), ("crash", (1, 1, 0))]
        run.append(("cut", ("lower", 0, 0), 2, (0, 0, 0)))
        disk = done_whole(UNSURE, disk, run[0]).with_flush()
        disk = crashed(UNSURE, done_whole(UNSURE, disk, run[2]), run[3][1])
        disk = crashed(UNSURE, done_part(UNSURE, disk, run[4][1], 2), run[4][3])
        self.assertEqual(run_end(UNSURE, FLAT, run), disk)
        self.assertEqual(run_end(run=run, tree=FLAT, setting=UNSURE), disk)

    def test_the_empty_run(self):
        for setting in Setting.every():
            self.says_true(is_run(setting, FLAT, []))
            self.assertEqual(run_end(setting, FLAT, []), Disk(FLAT))
            self.says_false(shows_miss(setting, FLAT, []))

    def test_a_deed_is_flushed_with_its_last_write_too(self):
        early = UNSURE.changed(flush_raises=True)
        self.assertEqual(run_end(early, FLAT, [("raise", 0, 1)]), Disk(Tree(1, [1, 1, 0])))
        self.assertEqual(run_end(UNSURE, FLAT, [("raise", 0, 1)]).pending, [(1, 1), (2, 1)])
        for told in itertools.product((0, 1), repeat=3):
            run = [("raise", 0, 1), ("crash", told)]
            self.assertIs(is_run(early, FLAT, run), told == (1, 1, 0))
            self.assertIs(is_run(UNSURE, FLAT, run), told[2] == 0)

    def test_a_cut_comes_ahead_of_the_flush_of_its_last_write(self):
        early = UNSURE.changed(flush_raises=True)
        for told in itertools.product((0, 1), repeat=3):
            self.assertIs(is_run(early, FLAT, [("cut", ("raise", 0, 1), 1, told)]), told in [(0, 0, 0), (1, 0, 0)])
            self.assertIs(is_run(early, FLAT, [("cut", ("raise", 0, 1), 2, told)]), told in [(1, 0, 0), (1, 1, 0)])

    def test_deeds_that_write_nothing_are_done_but_not_cut(self):
        for deed in [("raise", 0, 0), ("lower", 1, 0), ("lower", 0, 1)]:
            self.assertEqual(run_end(BELOW, FLAT, [deed]), Disk(FLAT))
            for done in (0, 1):
                self.says_false(is_run(BELOW, FLAT, [("cut", deed, done, (0, 0, 0))]))

    def test_mended_behind_each_crash(self):
        mending = BELOW.changed(mends=True)
        self.assertEqual(run_end(BELOW, FLAT, MISSED), Disk(Tree(1, [0, 1, 0])))
        self.assertEqual(run_end(mending, FLAT, MISSED), Disk(Tree(1, [1, 1, 0])))
        self.assertEqual(run_end(mending, Tree(1, [1, 0, 0]), [("crash", (1, 0, 0))]), Disk(FLAT))

    def test_behind_a_crash_all_is_as_good_as_flushed(self):
        run = [("raise", 0, 1), ("crash", (1, 0, 0)), ("crash", (1, 0, 0))]
        self.says_true(is_run(UNSURE, FLAT, run))
        self.says_false(is_run(UNSURE, FLAT, run[:2] + [("crash", (0, 0, 0))]))
        self.says_false(is_run(UNSURE, FLAT, run[:2] + [("crash", (1, 1, 0))]))

    def test_on_a_tree_that_is_not_upright_there_is_no_run(self):
        for tree in list(all_trees(1, 2)) + list(all_trees(2, 2)):
            for value in ([], [("flush",)], [("crash", tuple(tree.told))]):
                self.assertIs(is_run(BELOW, tree, value), tree.is_upright)
                if not tree.is_upright:
                    self.raises(BadArgument, "value", value, run_end, BELOW, tree, value)
                    self.says_false(shows_miss(BELOW, tree, value))


class Bent(Case):
    def no_run(self, setting, tree, value):
        self.says_false(is_run(setting, tree, value))
        self.says_false(shows_miss(setting, tree, value))
        self.raises(BadArgument, "value", value, run_end, setting, tree, value)

    def test_parts_of_a_wrong_form(self):
        tree = Tree(3, [3, 3, 1, 2, 3, 1, 1])
        told, deed = tuple(tree.told), ("raise", 3, 3)
        parts = NO_PARTS + [
            ("flush", told), ("cut", told), ("raise", told), (None, told), ("raise",), ("crash", deed, 2, told),
            ("flush", deed, 2, told), ("raise", deed, 2, told), ("cut", deed, told), ("crash", 0, 1),
            (), ("flush", 1), ("flush", None), ["flush"], "flush", ("Flush",), (("flush",),), ("crash",),
            ("crash", told, 1), ["crash", told], ("crash", list(told)), ("crash", told[:3]), ("crash", told + (0,)),
            ("crash", told * 2),
            ("crash", None), ("crash", 1), ("crash", tree), ("crash", Disk(tree)), ("crash", ()),
            ("crash", EqualToAll()), ("crash", Falling()), ("crash", (True,) + told[1:]), ("crash", told[:-1] + (1.0,)),
            ("crash", told[:-1] + (True,)), ("crash", told[:-1] + (EqualToAll(),)), ("crash", told[:-1] + (Falling(),)),
            ("cut",), ("cut", ("raise", 3, 3), 1), ("cut", ("raise", 3, 3), told, 1), (EqualToAll(),),
            (Falling(), told),
        ]
        for part in parts:
            self.no_run(UNSURE, tree, [part])
            self.no_run(UNSURE, tree, [("raise", 0, 3), ("flush",), part])
            self.no_run(UNSURE, tree, [part, ("flush",)])

    def test_cuts_of_a_wrong_form(self):
        tree = Tree(3, [3, 3, 1, 2, 3, 1, 1])
        told, deed = tuple(tree.told), ("raise", 3, 3)
        self.says_true(is_run(UNSURE, tree, [("cut", deed, 2, told)]))
        for done in [0, 3, -1, 10 ** 100] + NO_INTEGERS:
            self.no_run(UNSURE, tree, [("cut", deed, done, told)])
        for other in NO_DEEDS + [("raise", 0, 0), ("flush",), [*deed]]:
            self.no_run(UNSURE, tree, [("cut", other, 2, told)])
        for other in [list(told), told[:6], told + (1,), None, (3,) * 7, EqualToAll(), Falling(), (True,) * 7, tree]:
            self.no_run(UNSURE, tree, [("cut", deed, 2, other)])
        self.no_run(UNSURE, tree, [["cut", deed, 2, told]])
        self.no_run(UNSURE, tree, [("cut", deed, 2, told, 1)])
        self.no_run(UNSURE, tree, [("Cut", deed, 2, told)])

    def test_told_classes_that_the_disk_cannot_have(self):
        for setting in Setting.every():
            disk = Disk(FLAT).with_row(row_of(setting, FLAT, ("raise", 0, 1)))
            disk = disk.with_flush() if setting.flush_raises else disk
            have = played.can_have(played.plain(disk.flushed), disk.pending, setting.order)
            for told in itertools.product((0, 1), repeat=3):
                run = [("raise", 0, 1), ("crash", told)]
                self.assertIs(is_run(setting, FLAT, run), told in have)

    def test_values_of_any_other_form(self):
        for value in NO_OBJECTS + [(), tuple(MISSED), (("flush",),), {0: ("flush",)}, "flush", ("flush",), FLAT, BELOW]:
            if not isinstance(value, list) or len(value) > 0:
                self.no_run(BELOW, FLAT, value)

    def test_a_wrong_part_behind_right_ones(self):
        chance = random.Random(122)
        for setting in Setting.every()[::3]:
            tree = upright_tree(chance, 2, 4)
            run, _ = some_run(chance, setting, tree, 5)
            for at in range(6):
                self.no_run(setting, tree, run[:at] + [("crash", (9,) * 7)] + run[at:])


class Shows(Case):
    def test_ends_with_a_crash_or_a_cut_and_misses(self):
        self.says_true(shows_miss(BELOW, FLAT, MISSED))
        self.says_true(shows_miss(UNSURE, FLAT, [("raise", 0, 1), ("crash", (0, 1, 0))]))
        self.says_true(shows_miss(UNSURE, FLAT, [("raise", 0, 1), ("crash", (0, 1, 0)), ("crash", (0, 1, 0))]))
        self.says_false(shows_miss(UNSURE, FLAT, [("raise", 0, 1), ("crash", (1, 1, 0))]))
        self.says_false(shows_miss(UNSURE, FLAT, [("raise", 0, 1)]))

    def test_ends_otherwise(self):
        for part in [("flush",), ("raise", 1, 0), ("lower", 1, 0), ("lower", 1, 1)]:
            run = MISSED + [part]
            self.assertNotEqual(run_end(BELOW, FLAT, run).now.missed(), [])
            self.says_false(shows_miss(BELOW, FLAT, run))

    def test_misses_earlier_but_not_at_the_end(self):
        run = MISSED + [("raise", 0, 1), ("crash", (1, 1, 0))]
        self.says_true(is_run(BELOW, FLAT, run))
        self.says_false(shows_miss(BELOW, FLAT, run))
        again = run + [("lower", 0, 0), ("flush",)] + MISSED
        self.says_true(shows_miss(value=again, tree=FLAT, setting=BELOW))

    def test_what_mending_puts_right(self):
        self.says_false(shows_miss(BELOW.changed(mends=True), FLAT, MISSED))

    def test_settings_that_do_not_miss_show_none(self):
        chance = random.Random(123)
        for setting in Setting.every():
            if not setting.misses:
                for classes, pages in ((1, 2), (2, 4)):
                    tree = upright_tree(chance, classes, pages)
                    run, disks = some_run(chance, setting, tree, 7)
                    self.assertEqual([disk.now.missed() for disk in disks], [[]] * 8)
                    self.says_false(shows_miss(setting, tree, run))


class MissRuns(Case):
    def test_of_each_setting_classes_and_pages(self):
        for setting, classes, pages in itertools.product(Setting.every(), range(1, 9), PAGES):
            answer = miss_run(setting, classes, pages)
            if setting.misses:
                self.assertIs(answer.__class__, tuple)
                tree, run = answer
                self.assertEqual((tree.__class__, tree.classes, len(tree), run.__class__), (Tree, classes, pages, list))
                self.says_true(tree.is_upright)
                self.says_true(shows_miss(setting, tree, run))
                self.assertNotEqual(run_end(setting, tree, run).now.missed(), [])
            else:
                self.assertIsNone(answer)

    def test_the_run_belongs_to_the_caller_and_is_told_again(self):
        for setting in Setting.every():
            if setting.misses:
                tree, run = miss_run(setting, 2, 4)
                told = list(run)
                run.clear()
                self.assertEqual(miss_run(setting, 2, 4), (tree, told), parts_of(setting))
        self.assertEqual(miss_run(pages=2, classes=1, setting=BELOW)[0].classes, 1)

    def test_wrong(self):
        for setting in (BELOW, Setting()):
            self.wrong(
                miss_run,
                ("setting", setting, BadArgument, "value", NO_SETTINGS),
                ("classes", 2, BadTree, "part", [0, -1, 9, 10 ** 100] + NO_INTEGERS, "classes"),
                ("pages", 4, BadPage, "number", [0, 1, 3, 5, 6, 31, 33, 64, -2, 10 ** 100] + NO_INTEGERS),
            )


class Values(Case):
    def test_wrong(self):
        rows = (
            ("setting", BELOW, BadArgument, "value", NO_SETTINGS),
            ("tree", FLAT, BadArgument, "value", NO_OBJECTS + [Disk(FLAT)]),
        )
        self.wrong(run_end, *rows, ("run", MISSED, BadArgument, "value", [None, (), [None], [("crash", (1, 1, 1))]]))
        for call in (is_run, shows_miss):
            for value in (MISSED, None, [None], Falling()):
                self.wrong(lambda setting, tree: call(setting, tree, value), *rows)
        # A tree that is not upright is a tree all the same.
        self.says_false(is_run(BELOW, Tree(3, [0] + STALE[1:]), []))

    def test_nothing_given_is_changed(self):
        run = [("raise", 0, 1), ("crash", (1, 0, 0))]
        told = list(run)
        for _ in range(2):
            is_run(UNSURE, FLAT, run)
            shows_miss(UNSURE, FLAT, run)
            disk = run_end(UNSURE, FLAT, run)
        self.assertEqual((run, FLAT.told), (told, [0, 0, 0]))
        run.clear()
        self.assertEqual(disk, Disk(Tree(1, [1, 0, 0])))

    def test_quick_for_the_greatest(self):
        # Anyhow there are far more trees than could be gone through.
        tree = Tree.flat(8, 32, 8)
        deeds = [("lower", page, told) for told in range(7, 0, -1) for page in range(32)]
        run = deeds + [("crash", (1,) * 31 + (8,) * 32)]
        self.says_true(shows_miss(UNSURE, tree, run))
        self.says_false(shows_miss(UNSURE.changed(mends=True), tree, run))
        self.assertEqual(run_end(UNSURE.changed(mends=True), tree, run).now, tree)
        self.says_false(is_run(UNSURE, tree, deeds + [("crash", (0,) * 63)]))
        # Stale trees are no beginning, however great.
        self.says_false(is_run(UNSURE, stale_tree(random.Random(1), 8, 32), run))


if __name__ == "__main__":
    unittest.main()
