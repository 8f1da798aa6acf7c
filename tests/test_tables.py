"""Promises 14 and 1 (e): live tables; with promise 2, as far as it speaks of them."""

import itertools
import random
import time
import unittest

from roomtold.disks import Disk
from roomtold.errors import BadArgument, BadNumber, BadPage, BadRooms, BadSize, NothingLeft
from roomtold.hidden import hidden_pages
from roomtold.search import out_of_sight
from roomtold.settings import Setting
from roomtold.steps import Steps
from roomtold.tables import Table
from roomtold.trees import Tree
from tests import played
from tests.checks import Case
from tests.odd import NO_INTEGERS, NO_OBJECTS, NO_ROWS, NO_WORDS, EqualToAll, Falling
from tests.samples import PAGES, some_steps
from tests.test_search import NO_ROOMS, NO_SIZES, ROOMS, STEPS
from tests.test_settings import NO_SETTINGS, parts_of

PLAIN = Setting()
EARLY = Setting(flush_raises=True, flush_lowers=True)
UNSURE = Setting(order="anyhow")
NO_TABLE_STEPS = NO_OBJECTS + [[3, 6, 10], Tree(3, [0, 0, 0]), Steps]
# Of other lengths they are rooms all the same, as there is no tree beside them.
NO_TABLE_ROOMS = [rooms for rooms in NO_ROOMS if not (isinstance(rooms, list) and len(rooms) in (2, 8))] + [[4] * 64]
NO_DROPS = NO_WORDS + ["At once", "atonce", "at  once", "Late", "late ", "above", ["late"], ("at once",)]
NO_MORE = [0, -1, 1001, 10 ** 100, -10 ** 100] + NO_INTEGERS


def table(setting=PLAIN, rooms=ROOMS, **named):
    return Table(STEPS, rooms, setting, **named)


def all_of(live):
    """All that a table tells of itself."""
    return (live.steps, live.setting, live.rooms, live.disk, live.tree, live.drops, len(live), live.hidden())


def left(live):
    """How many changes can be taken back, and how many can be made again; the table is as it was."""
    back, again = len(live), 0
    try:
        while True:
            live.redo()
            again += 1
    except NothingLeft:
        for _ in range(again):
            live.undo()
    return back, again


class Made(Case):
    def test_the_tree_is_exact_and_flushed(self):
        chance = random.Random(141)
        for pages, classes in itertools.product(PAGES, range(1, 9)):
            steps = some_steps(chance, classes, 100)
            rooms = [chance.randint(0, 100) for _ in range(pages)]
            live = Table(steps, rooms, UNSURE)
            tree = Tree.exact(steps, rooms)
            self.assertEqual((live.steps, live.setting, live.rooms), (steps, UNSURE, rooms))
            self.assertEqual((live.disk, live.tree, live.drops), (Disk(tree), tree, "at once"))
            self.assertEqual((len(live), live.hidden()), (0, 0))

    def test_by_name_and_rooms_as_a_tuple(self):
        live = Table(setting=UNSURE, drops="late", rooms=tuple(ROOMS), steps=STEPS)
        self.assertEqual(all_of(live), all_of(table(UNSURE, drops="late")))
        self.assertEqual(live.rooms.__class__, list)
        self.assertRaises(TypeError, Table, STEPS, ROOMS, PLAIN, "late")

    def test_wrong(self):
        self.wrong(
            Table,
            ("steps", STEPS, BadArgument, "value", NO_TABLE_STEPS),
            ("rooms", ROOMS, BadRooms, "value", NO_TABLE_ROOMS),
            ("setting", PLAIN, BadArgument, "value", NO_SETTINGS),
            ("drops", "late", BadArgument, "value", NO_DROPS),
        )

    def test_given_rooms_are_neither_kept_nor_changed(self):
        rooms = list(ROOMS)
        live = table(rooms=rooms)
        live.put(5)
        live.drop(0, 3)
        self.assertEqual(rooms, ROOMS)
        rooms[:] = [0, 0, 0, 0]
        self.assertEqual(live.rooms, [7, 1, 9, 10])

    def test_told_rooms_belong_to_the_caller(self):
        live = table()
        live.rooms.clear()
        live.rooms[0] = 12
        self.assertEqual(live.rooms, ROOMS)

    def test_properties_that_cannot_be_set(self):
        live = table()
        for name in ("steps", "setting", "rooms", "disk", "tree"):
            with self.assertRaises(AttributeError):
                setattr(live, name, getattr(live, name))
        self.assertEqual(repr(live), repr(live))

    def test_pages(self):
        live = table()
        self.assertEqual([live[page] for page in range(4)], ROOMS)
        live.put(5)
        self.assertEqual([live[page] for page in range(4)], [4, 1, 9, 10])
        for page in [-1, 4, 10 ** 100] + NO_INTEGERS:
            self.raises(BadPage, "number", page, lambda: live[page])
        for call in (iter, list, lambda live: 4 in live):
            self.assertRaises(TypeError, call, live)


class Puts(Case):
    def test_a_page_is_found(self):
        # The need of 5 is 2, and page 0, whose room is of class 1, has not surely room.
        live = table()
        self.assertEqual(live.put(5), 1)
        self.assertEqual((live.rooms, live.tree.told), ([4, 1, 9, 10], [3, 1, 3, 1, 0, 2, 3]))
        self.assertEqual(live.disk.pending, [(5, 0), (2, 1)])
        self.assertEqual((live.put(size=3), live.rooms), (0, [1, 1, 9, 10]))

    def test_nothing_is_found(self):
        for size in (11, 12):
            live = table()
            self.assertIsNone(live.put(size))
            self.assertEqual((live.rooms, live.disk, len(live)), (ROOMS, Disk(Tree.exact(STEPS, ROOMS)), 1))
        # No page has as much, though the bound is there.
        live = table(rooms=[4, 6, 9, 9])
        self.assertIsNone(live.put(10))
        self.assertEqual((live.rooms, len(live)), ([4, 6, 9, 9], 1))

    def test_room_is_left_0_or_in_the_same_class(self):
        live = table(rooms=[6, 0, 0, 0])
        self.assertEqual((live.put(6), live.rooms, live.tree.told), (0, [0] * 4, [0] * 7))
        live = table(rooms=[12, 0, 0, 0])
        # What is left is of a class less only behind the second put.
        self.assertEqual((live.put(2), live.disk.pending, live[0]), (0, [], 10))
        self.assertEqual((live.put(2), live.disk.pending), (0, [(4, 2), (2, 2), (1, 2)]))

    def test_puts_right_what_led_astray(self):
        # A crash leaves leaves told more than their pages have.
        live = table(UNSURE, rooms=[9, 6, 0, 0])
        live.put(6)
        live.crash([2, 2, 0, 2, 2, 0, 0])
        self.assertEqual(live.put(6), 1)
        self.assertEqual((live.rooms, live.disk.pending), ([3, 0, 0, 0], [(4, 1), (5, 0), (2, 1), (1, 1)]))
        # Nothing is found, but the lowerings of the search are written.
        live.crash((2, 2, 0, 2, 2, 0, 0))
        self.assertIsNone(live.put(6))
        self.assertEqual((live.rooms, live.disk.pending), ([3, 0, 0, 0], [(4, 1), (5, 0), (2, 1), (1, 1)]))

    def test_written_from_above(self):
        live = table(Setting(lowers="above"), rooms=[12, 0, 0, 0])
        live.put(4)
        self.assertEqual(live.disk.pending, [(1, 2), (2, 2), (4, 2)])

    def test_flushed_behind_each_write(self):
        live = table(EARLY)
        live.put(5)
        self.assertEqual(live.disk, Disk(Tree(3, [3, 1, 3, 1, 0, 2, 3])))
        # What was written late is flushed with the first write of a lowering, not without one.
        live = Table(STEPS, [12, 0, 0, 0], Setting(flush_lowers=True))
        live.drop(3, 3)
        row = [(3, 1), (7, 1)]
        live.put(1)
        self.assertEqual(live.disk.pending, row)
        live.put(2)
        self.assertEqual(live.disk.pending, [])

    def test_wrong(self):
        live = table()
        live.put(5)
        live.undo()
        before = all_of(live)
        for size in NO_SIZES:
            self.raises(BadSize, "value", size, live.put, size)
            self.raises(BadSize, "value", size, live.put, size=size)
        self.assertEqual((all_of(live), left(live)), (before, (0, 1)))


class Drops(Case):
    def test_at_once(self):
        live = table()
        self.assertIsNone(live.drop(0, 2))
        self.assertEqual((live.rooms, live.tree.told), ([6, 6, 9, 10], [3, 2, 3, 2, 2, 2, 3]))
        # From above, and without the nodes that are told as much.
        self.assertEqual(live.disk.pending, [(4, 2)])
        live.drop(more=6, page=1)
        self.assertEqual(live.disk.pending, [(4, 2), (2, 3), (5, 3)])
        live = table(Setting(raises="below"))
        live.drop(1, 6)
        self.assertEqual(live.disk.pending, [(5, 3), (2, 3)])
        live = table(Setting(flush_raises=True))
        live.drop(1, 6)
        self.assertEqual((live.disk.pending, live.disk.flushed.told), ([], [3, 3, 3, 1, 3, 2, 3]))

    def test_late(self):
        live = table(drops="late")
        live.drop(1, 6)
        self.assertEqual((live.rooms, live.disk, live.hidden()), ([4, 12, 9, 10], Disk(Tree.exact(STEPS, ROOMS)), 12))

    def test_a_leaf_that_is_told_as_much_is_not_raised(self):
        # By a crash the nodes above are told too low: a raising would write them.
        live = table(UNSURE, rooms=[0, 0, 0, 0])
        live.drop(0, 4)
        live.crash([0, 0, 0, 1, 0, 0, 0])
        live.drop(0, 1)
        self.assertEqual((live.tree.told, live.disk.pending), ([0, 0, 0, 1, 0, 0, 0], []))
        live.drop(0, 1)
        self.assertEqual(live.disk.pending, [(1, 2), (2, 2), (4, 2)])
        # Told more than it has, too.
        live = table(UNSURE, rooms=[12, 0, 0, 0])
        live.put(9)
        live.crash([1, 1, 0, 3, 0, 0, 0])
        live.drop(0, 3)
        self.assertEqual((live.tree.told, live.hidden()), ([1, 1, 0, 3, 0, 0, 0], 0))

    def test_set_while_the_table_lives(self):
        live = table()
        live.drop(0, 2)
        live.undo()
        live.drops = "late"
        self.assertEqual((live.drops, left(live)), ("late", (0, 1)))
        live.redo()
        self.assertEqual(live.tree.told[3], 2)
        live.drop(1, 6)
        self.assertEqual((live.drops, live.hidden()), ("late", 12))
        live.drops = "at once"
        live.undo()
        live.undo()
        self.assertEqual((live.drops, live.rooms), ("at once", ROOMS))
        # Made again it gives what it had left, not what it would leave now.
        live.redo()
        live.redo()
        self.assertEqual((live.drops, live.hidden()), ("at once", 12))

    def test_wrong_drops(self):
        live = table(drops="late")
        live.flush()
        live.undo()
        for value in NO_DROPS:
            with self.assertRaises(BadArgument) as caught:
                live.drops = value
            self.assertIs(caught.exception.value, value)
        self.assertEqual((live.drops, left(live)), ("late", (0, 1)))

    def test_wrong(self):
        live = table()
        live.drop(0, 1)
        live.undo()
        before = all_of(live)
        self.wrong(
            live.drop,
            ("page", 1, BadPage, "number", [-1, 4, 10 ** 100] + NO_INTEGERS),
            ("more", 6, BadNumber, "number", NO_MORE + [7]),
        )
        for page, more in ((0, 9), (1, 7), (2, 4), (3, 3)):
            self.raises(BadNumber, "number", more, live.drop, page, more)
        self.assertEqual((all_of(live), left(live)), (before, (0, 1)))

    def test_up_to_the_greatest_room(self):
        live = table()
        for page, more in ((0, 8), (1, 6), (2, 3), (3, 2)):
            live.drop(page, more)
            for one in (1, 12):
                self.raises(BadNumber, "number", one, live.drop, page, one)
        self.assertEqual(live.rooms, [12] * 4)


class Others(Case):
    def test_clean(self):
        live = table(UNSURE, drops="late")
        live.drop(0, 2)
        live.put(10)
        live.crash([3, 2, 3, 1, 2, 2, 3])
        self.assertEqual((live.rooms, live.tree, live.hidden()), ([6, 6, 9, 0], Tree.exact(STEPS, ROOMS), 6))
        self.assertIsNone(live.clean())
        self.assertEqual((live.tree.told, live.hidden()), ([2, 2, 2, 2, 2, 2, 0], 0))
        self.assertEqual(live.disk.pending, [(4, 2), (7, 0), (3, 2), (1, 2)])
        live.clean()
        self.assertEqual((live.disk.pending, len(live)), ([(4, 2), (7, 0), (3, 2), (1, 2)], 5))

    def test_clean_flushes_as_the_setting_tells(self):
        # Page 0 is raised by it, page 3 lowered.
        for early, pending in ((False, [(4, 2), (7, 0), (3, 2), (1, 2)]), (True, [(7, 0), (3, 2), (1, 2)])):
            live = table(UNSURE.changed(flush_raises=early), drops="late")
            live.drop(0, 2)
            live.put(10)
            live.crash([3, 2, 3, 1, 2, 2, 3])
            live.clean()
            self.assertEqual(live.disk.pending, pending)
        for early, pending in ((False, [(4, 2)]), (True, [])):
            live = table(Setting(flush_raises=early, flush_lowers=True), drops="late")
            live.drop(0, 2)
            live.clean()
            self.assertEqual((live.disk.pending, live.tree.told), (pending, [3, 2, 3, 2, 2, 2, 3]))

    def test_flush(self):
        live = table()
        live.put(5)
        self.assertIsNone(live.flush())
        self.assertEqual((live.disk, len(live)), (Disk(live.tree), 2))
        live.flush()
        self.assertEqual((live.disk, len(live), live.rooms), (Disk(live.tree), 3, [4, 1, 9, 10]))

    def test_crash_by_a_list_and_by_a_tuple(self):
        for told in ([3, 2, 3, 1, 0, 2, 3], (3, 2, 3, 1, 0, 2, 3)):
            live = table()
            live.put(5)
            self.assertIsNone(live.crash(told))
            self.assertEqual((live.disk, live.rooms, len(live)), (Disk(Tree(3, told)), [4, 1, 9, 10], 2))
        live.undo()
        live.crash(told=told)
        live = table(Setting(mends=True))
        live.put(5)
        live.crash([3, 2, 3, 1, 0, 2, 3])
        self.assertEqual(live.disk, Disk(Tree(3, [3, 1, 3, 1, 0, 2, 3])))

    def test_crash_by_what_the_disk_cannot_have(self):
        for setting in (PLAIN, UNSURE):
            live = table(setting)
            live.put(5)
            live.flush()
            live.undo()
            before = all_of(live)
            odd = [[3, 1, 3, 1, 2, 2, 3], (0,) * 7, [3, 2, 3], [3, 2, 3, 1, 2, 2, 3, 3], [3, 2, 3, 1, 2, 2, 4], live.tree,
                   [3, 2, 3, True, 2, 2, 3], [3, 2, 3, 1, 2, 2, 3.0], [3, 2, 3, 1, 2, 2, EqualToAll()], live.disk]
            for told in (odd[1:] if setting == UNSURE else odd) + NO_ROWS + [[], ()]:
                self.raises(BadArgument, "value", told, live.crash, told)
            self.assertEqual((all_of(live), left(live)), (before, (1, 1)))

    def test_hidden_room(self):
        live = table(drops="late")
        live.drop(0, 1)
        self.assertEqual(live.hidden(), 0)
        live.drop(0, 1)
        self.assertEqual(live.hidden(), 6)
        live.drop(1, 6)
        self.assertEqual(live.hidden(), 18)
        live.undo()
        self.assertEqual(live.hidden(), 6)
        live.clean()
        self.assertEqual(live.hidden(), 0)


class Undo(Case):
    def changes(self, live):
        """Each kind of change, one behind the other."""
        yield lambda: live.put(5)
        yield lambda: live.put(12)
        yield lambda: live.drop(1, 5)
        yield lambda: live.crash(live.disk.flushed.told)
        yield lambda: live.clean()
        yield lambda: live.flush()
        yield lambda: live.flush()
        yield lambda: live.put(3)
        yield lambda: live.clean()

    def test_each_kind_of_change_one_behind_another(self):
        for setting in (PLAIN, EARLY, UNSURE, Setting(mends=True)):
            live = table(setting)
            told = [all_of(live)]
            for change in self.changes(live):
                change()
                told.append(all_of(live))
                self.assertEqual(len(live), len(told) - 1)
                self.assertIsNone(live.undo())
                self.assertEqual(all_of(live), told[-2])
                self.assertIsNone(live.redo())
                self.assertEqual(all_of(live), told[-1])
            for at in range(len(told) - 2, -1, -1):
                live.undo()
                self.assertEqual(all_of(live), told[at])
            self.assertRaises(NothingLeft, live.undo)
            for at in range(1, len(told)):
                live.redo()
                self.assertEqual(all_of(live), told[at])
            self.assertRaises(NothingLeft, live.redo)
            self.assertEqual(all_of(live), told[-1])

    def test_nothing_left(self):
        live = table()
        self.assertRaises(NothingLeft, live.undo)
        self.assertRaises(NothingLeft, live.redo)
        live.flush()
        self.assertRaises(NothingLeft, live.redo)
        live.undo()
        self.assertRaises(NothingLeft, live.undo)
        self.assertEqual(left(live), (0, 1))

    def test_a_change_behind_an_undo(self):
        for at in range(9):
            live = table()
            live.put(5)
            live.drop(0, 1)
            live.undo()
            self.assertEqual(left(live), (1, 1))
            list(self.changes(live))[at]()
            self.assertEqual(left(live), (2, 0))
            self.assertRaises(NothingLeft, live.redo)
            live.undo()
            live.undo()
            self.assertEqual((live.rooms, len(live)), (ROOMS, 0))

    def test_how_drops_are_told_is_not_taken_back(self):
        live = table()
        live.flush()
        live.drops = "late"
        live.undo()
        self.assertEqual(live.drops, "late")
        live.drops = "at once"
        live.redo()
        self.assertEqual(live.drops, "at once")


class Trials(Case):
    def test_one_that_ends(self):
        live = table()
        with live.trial() as tried:
            self.assertIs(tried, live)
            self.assertEqual(tried.put(5), 1)
            tried.drops = "late"
        self.assertEqual((live.rooms, live.drops, left(live)), ([4, 1, 9, 10], "late", (1, 0)))

    def test_one_that_an_error_leaves(self):
        for error in (BadSize(1), NothingLeft(), KeyError("a"), RuntimeError(), ZeroDivisionError(), KeyboardInterrupt()):
            live = table(UNSURE)
            live.put(5)
            live.drop(0, 1)
            live.flush()
            live.undo()
            before = all_of(live)
            with self.assertRaises(error.__class__) as caught:
                with live.trial():
                    live.undo()
                    live.drops = "late"
                    live.drop(2, 3)
                    live.put(3)
                    live.crash(live.disk.flushed.told)
                    raise error
            self.assertIs(caught.exception, error)
            self.assertEqual((all_of(live), left(live)), (before, (2, 1)))
            live.redo()
            live.undo()
            live.undo()
            live.undo()
            self.assertEqual((live.rooms, live.drops, left(live)), (ROOMS, "at once", (0, 3)))

    def test_errors_of_the_table_itself(self):
        for wrong, error in ((lambda live: live.put(0), BadSize), (lambda live: live.drop(0, 0), BadNumber),
                             (lambda live: live.drop(9, 1), BadPage), (lambda live: live.crash([]), BadArgument),
                             (lambda live: live.redo(), NothingLeft), (lambda live: live[7], BadPage)):
            live = table()
            live.put(5)
            live.flush()
            live.undo()
            before = all_of(live)
            with self.assertRaises(error):
                with live.trial():
                    live.clean()
                    wrong(live)
            self.assertEqual((all_of(live), left(live)), (before, (1, 1)))

    def test_undos_within(self):
        live = table()
        live.put(5)
        live.drop(0, 1)
        before = all_of(live)
        with self.assertRaises(NothingLeft):
            with live.trial():
                live.undo()
                live.undo()
                live.undo()
        self.assertEqual((all_of(live), left(live)), (before, (2, 0)))
        with live.trial():
            live.undo()
        self.assertEqual(left(live), (1, 1))
        with self.assertRaises(KeyError):
            with live.trial():
                live.redo()
                live.put(1)
                raise KeyError
        self.assertEqual(left(live), (1, 1))
        live.redo()
        self.assertEqual(all_of(live), before)

    def test_one_context_one_behind_another(self):
        live = table()
        trial = live.trial()
        # What comes ahead of the block is no part of the trial.
        live.put(5)
        for many in range(3):
            with trial as tried:
                self.assertIs(tried, live)
                live.drop(1, 1)
            with self.assertRaises(RuntimeError):
                with trial:
                    live.undo()
                    live.clean()
                    live.flush()
                    raise RuntimeError
            self.assertEqual((live[1], left(live)), (many + 2, (many + 2, 0)))
            live.undo()
            live.redo()
        with self.assertRaises(RuntimeError):
            with trial:
                live.clean()
                raise RuntimeError
        with self.assertRaises(RuntimeError):
            with trial:
                live.flush()
                raise RuntimeError
        live.undo()
        self.assertEqual((live[1], left(live)), (3, (3, 1)))

    def test_a_trial_within_another(self):
        live = table()
        with self.assertRaises(KeyError):
            with live.trial():
                live.put(5)
                with self.assertRaises(NothingLeft):
                    with live.trial():
                        live.put(3)
                        live.redo()
                self.assertEqual(left(live), (1, 0))
                raise KeyError
        self.assertEqual((live.rooms, left(live)), (ROOMS, (0, 0)))

    def test_an_error_that_the_block_catches(self):
        live = table()
        with live.trial():
            live.put(5)
            self.assertRaises(NothingLeft, live.redo)
        self.assertEqual(left(live), (1, 0))


class Equal(Case):
    def test_one_part_unlike(self):
        live = table()
        others = [
            Table(Steps(12, [3, 6, 9]), [4, 6, 8, 10], PLAIN), Table(Steps(13, [3, 6, 10]), ROOMS, PLAIN),
            table(EARLY), table(rooms=[4, 6, 9, 11]), table(rooms=[4, 6]), table(drops="late"),
        ]
        put = table()
        put.put(5)
        flushed = table()
        flushed.put(5)
        flushed.flush()
        others += [put, flushed]
        for one, other in itertools.combinations([live] + others, 2):
            self.says_false(one == other)
            self.says_true(one != other)
        # With the same rooms, another disk.
        late, once = table(drops="late"), table()
        late.drop(0, 2)
        once.drop(0, 2)
        late.drops = "at once"
        self.says_false(late == once)

    def test_what_can_be_taken_back_does_not_count(self):
        live, other = table(), table()
        self.says_true(live == other)
        live.flush()
        self.says_true(live == other)
        live.put(5)
        self.says_false(live == other)
        live.undo()
        live.undo()
        self.says_true(live == other)
        self.says_true(live == Table(Steps(12, (3, 6, 10)), tuple(ROOMS), Setting()))
        live.drops = "late"
        self.says_false(live == other)

    def test_any_value(self):
        for value in NO_OBJECTS + [ROOMS, STEPS, PLAIN, Disk(Tree.exact(STEPS, ROOMS)), Table]:
            if not isinstance(value, EqualToAll):
                self.says_false(table() == value)
                self.says_true(table() != value)
        self.says_false(table().__eq__(EqualToAll()))


class Played(Case):
    """All settings, against the play over plain lists."""

    def same(self, live, play):
        self.assertEqual((live.rooms, live.drops), (play.state["rooms"], play.drops))
        self.assertEqual((live.tree.told, live.disk.now.told), (play.state["now"][1:],) * 2)
        self.assertEqual(live.disk.flushed.told, play.state["flushed"][1:])
        self.assertEqual(live.disk.pending, play.state["pending"])
        self.assertEqual((live.hidden(), len(live)), (play.hidden(), len(play.past)))

    def step(self, chance, live, play):
        """A change, or one taken back or made again, of both; what puts and drops did to the true room as a whole."""
        kind = chance.choice(["put", "put", "put", "drop", "drop", "clean", "flush", "crash", "undo", "redo", "drops"])
        if kind == "put":
            size = chance.randint(1, live.steps.most)
            page = play.put(size)
            self.assertEqual(live.put(size), page)
        elif kind == "drop":
            page = chance.randrange(len(live.rooms))
            if live[page] < live.steps.most:
                more = chance.randint(1, live.steps.most - live[page])
                play.drop(page, more)
                live.drop(page, more)
        elif kind == "crash" and len(play.state["pending"]) < 9:
            told = chance.choice(play.can_have())
            play.crash(told)
            live.crash(told)
        elif kind in ("clean", "flush"):
            getattr(play, kind)()
            getattr(live, kind)()
        elif kind == "drops":
            play.drops = chance.choice(["at once", "late"])
            live.drops = play.drops
        elif kind in ("undo", "redo"):
            if play.past if kind == "undo" else play.future:
                getattr(play, kind)()
                getattr(live, kind)()
            else:
                self.assertRaises(NothingLeft, getattr(live, kind))

    def test_all_settings(self):
        for at, setting in enumerate(Setting.every()):
            chance = random.Random(at)
            for pages, classes in ((2, 1), (4, 3), (8, 2)):
                steps = some_steps(chance, classes, 12)
                rooms = [chance.randint(0, 12) for _ in range(pages)]
                drops = chance.choice(["at once", "late"])
                live = Table(steps, rooms, setting, drops=drops)
                play = played.PlayedTable(steps.bounds, rooms, setting, drops)
                for _ in range(25):
                    self.step(chance, live, play)
                    self.same(live, play)

    def test_true_room_is_changed_by_puts_and_drops_alone(self):
        chance = random.Random(142)
        for setting in Setting.every():
            live = Table(STEPS, ROOMS, setting, drops=chance.choice(["at once", "late"]))
            whole = sum(ROOMS)
            for _ in range(30):
                size, page = chance.randint(1, 12), chance.randrange(4)
                if live.put(size) is not None:
                    whole -= size
                self.assertEqual(sum(live.rooms), whole)
                if live[page] + size <= 12:
                    live.drop(page, size)
                    whole += size
                live.crash(chance.choice([live.disk.flushed, live.disk.now]).told)
                chance.choice([live.clean, live.flush, live.hidden])()
                self.assertEqual(sum(live.rooms), whole)

    def test_by_a_rule_that_does_not_miss_what_is_out_of_sight_is_hidden(self):
        for at, setting in enumerate(Setting.every()):
            if not setting.misses:
                chance = random.Random(at)
                live = Table(STEPS, [chance.randint(0, 12) for _ in range(8)], setting)
                play = played.PlayedTable(STEPS.bounds, live.rooms, setting)
                for _ in range(40):
                    self.step(chance, live, play)
                    self.assertEqual(live.tree.missed(), [])
                    self.sees_or_hides(live)
                live.clean()
                self.assertEqual(live.hidden(), 0)
                self.sees_or_hides(live)

    def sees_or_hides(self, live):
        for size in (1, 3, 4, 6, 7, 10):
            enough = [page for page in range(8) if live.steps(live[page]) >= live.steps.need(size)]
            blind = out_of_sight(live.tree, live.steps, live.rooms, size)
            self.assertLessEqual(set(blind) & set(enough), set(hidden_pages(live.tree, live.steps, live.rooms)))


class Quick(Case):
    def test_the_greatest_tables(self):
        chance = random.Random(143)
        begin = time.perf_counter()
        for setting in Setting.every()[::21]:
            steps = Steps(1000, [10, 50, 100, 200, 400, 600, 800, 1000])
            live = Table(steps, [1000] * 32, setting)
            for _ in range(60):
                live.put(chance.randint(1, 1000))
                page = chance.randrange(32)
                if live[page] < 1000:
                    live.drop(page, 1000 - live[page])
            self.says_true(live.hidden() >= 0)
            for _ in range(60):
                live.undo()
        self.assertLess(time.perf_counter() - begin, 20)

    def test_the_same_calls_tell_the_same_again(self):
        told = []
        for _ in range(2):
            live = table(UNSURE)
            told.append([live.put(5), live.put(4), live.drop(0, 1), live.clean(), all_of(live), all_of(live)])
        self.assertEqual(told[0], told[1])
        self.assertEqual(told[0][-1], told[0][-2])


if __name__ == "__main__":
    unittest.main()
