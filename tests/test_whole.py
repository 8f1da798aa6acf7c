"""Promises 1 and 2 over the whole program: arguments by name, the document's examples, and one way from end to end."""

import doctest
import random
import unittest

from roomtold import (best, disks, errors, hidden, ladders, losses, papers, runs, search, settings, sums, texts, trees,
                      writes)
from roomtold.consoles import Console
from roomtold.disks import Disk
from roomtold.sessions import Session
from roomtold.settings import Setting
from roomtold.steps import Steps
from roomtold.tables import Table
from roomtold.trees import Tree
from tests import test_interface
from tests.checks import Case
from tests.samples import STALE, upright_tree

EXAMPLES = """
>>> from roomtold.search import behind, found, looked_at
>>> from roomtold.steps import Steps
>>> from roomtold.trees import Tree
>>> steps, rooms = Steps(12, [3, 6, 10]), [4, 6, 9, 10]
>>> [steps(5), steps.need(4), steps.need(11)]
[1, 2, None]
>>> tree = Tree(3, [2, 2, 1, 2, 1, 1, 0])
>>> [found(tree, steps, rooms, 6), looked_at(tree, steps, rooms, 6), behind(tree, steps, rooms, 6).told]
[None, [0], [1, 1, 1, 1, 1, 1, 0]]
>>> [found(tree, steps, rooms, 3), tree.missed()]
[0, []]
>>> from roomtold.best import best_steps, least_paper
>>> from roomtold.sums import best_by_sum
>>> [best_steps([2, 3, 9, 10], 2), least_paper([2, 3, 9, 10], 2), best_by_sum({2: 1, 4: 5, 6: 1, 7: 1}, 2)]
[[3, 10], (1, [3, 10], [2, 3, 9]), [4, 7]]
"""

STEPS, ROOMS, TREE = Steps(12, [3, 6, 10]), [4, 6, 9, 10], Tree(3, STALE)
BELOW, SIZES, WEIGHTS = Setting(raises="below"), [2, 3, 9, 10], {2: 1, 4: 5, 6: 1, 7: 1}
DISK, FLAT = Disk(TREE).with_row([(4, 0), (2, 1)]), Tree.flat(1, 2, 0)
RUN, PAPER = [("cut", ("raise", 0, 1), 1, (0, 1, 0))], ((0, 0, 0), "raise", 1, (0, 1, 0))

# Each function and static method with its arguments, in the interface's order, by the interface's names.
SEARCH = {"tree": TREE, "steps": STEPS, "rooms": ROOMS, "size": 6}
CALLS = {
    Tree.flat: {"classes": 3, "pages": 4, "told": 2}, Tree.exact: {"steps": STEPS, "rooms": ROOMS},
    writes.raising: {"tree": TREE, "page": 1, "told": 3}, writes.lowering: {"tree": TREE, "node": 4, "told": 0},
    writes.written: {"tree": TREE, "row": [(4, 0)]}, writes.stages: {"tree": TREE, "row": [(4, 0), (4, 3)]},
    search.good_pages: SEARCH, search.found: SEARCH, search.looked_at: SEARCH, search.behind: SEARCH,
    search.out_of_sight: SEARCH, search.going: SEARCH, search.search_row: SEARCH,
    search.searches: {"tree": TREE, "steps": STEPS, "rooms": ROOMS, "sizes": [6, 3]},
    settings.deed_row: {"setting": BELOW, "tree": TREE, "deed": ("raise", 1, 3)},
    settings.done_whole: {"setting": BELOW, "disk": DISK, "deed": ("raise", 1, 3)},
    settings.done_part: {"setting": BELOW, "disk": DISK, "deed": ("raise", 1, 3), "done": 2},
    settings.crashed: {"setting": BELOW, "disk": DISK, "told": STALE},
    papers.miss_paper: {"setting": BELOW}, papers.miss_papers: {"setting": BELOW},
    papers.is_miss_paper: {"setting": BELOW, "value": PAPER},
    runs.is_run: {"setting": BELOW, "tree": FLAT, "value": RUN}, runs.run_end: {"setting": BELOW, "tree": FLAT, "run": RUN},
    runs.shows_miss: {"setting": BELOW, "tree": FLAT, "value": RUN},
    runs.miss_run: {"setting": BELOW, "classes": 3, "pages": 4},
    hidden.hidden_pages: {"tree": TREE, "steps": STEPS, "rooms": ROOMS},
    hidden.hidden_room: {"tree": TREE, "steps": STEPS, "rooms": ROOMS},
    hidden.clean_deeds: {"tree": TREE, "steps": STEPS, "rooms": ROOMS},
    hidden.cleaned: {"tree": TREE, "steps": STEPS, "rooms": ROOMS},
    losses.loss: {"steps": STEPS, "size": 4}, losses.losses: {"steps": STEPS, "sizes": SIZES},
    losses.greatest_loss: {"steps": STEPS, "sizes": SIZES}, losses.sum_of_losses: {"steps": STEPS, "weights": WEIGHTS},
    losses.idle_room: {"steps": STEPS, "size": 4}, losses.is_idle: {"steps": STEPS, "rooms": ROOMS, "size": 4},
    losses.idle_tree: {"steps": STEPS, "size": 4, "pages": 8},
    best.cutting: {"sizes": SIZES, "worst": 1}, best.least_greatest: {"sizes": SIZES, "many": 2},
    best.best_steps: {"sizes": SIZES, "many": 2}, best.least_paper: {"sizes": SIZES, "many": 2},
    best.shows_least: {"sizes": SIZES, "many": 2, "value": (1, [3, 10], [2, 3, 9])},
    sums.sum_table: {"weights": WEIGHTS, "many": 2}, sums.least_sum: {"weights": WEIGHTS, "many": 2},
    sums.best_by_sum: {"weights": WEIGHTS, "many": 2},
    sums.shows_table: {"weights": WEIGHTS, "many": 1, "table": sums.sum_table(WEIGHTS, 1)},
    ladders.ladder: {"sizes": SIZES}, ladders.sum_ladder: {"weights": WEIGHTS},
    ladders.fewest_bounds: {"sizes": SIZES, "worst": 1}, ladders.fewest_paper: {"sizes": SIZES, "worst": 1},
    ladders.shows_fewest: {"sizes": SIZES, "worst": 1, "number": 2, "paper": [3, 10]},
    texts.steps_text: {"steps": STEPS}, texts.tree_text: {"tree": TREE}, texts.weights_text: {"weights": WEIGHTS},
    texts.read_steps: {"text": "steps 12 3 6"}, texts.read_tree: {"text": "tree 1\ntold 0\ntold 0 1"},
    texts.read_weights: {"text": "weights\nsize 3 4"},
}
# Those behind a star, by name alone.
NAMED = [
    (writes.raising, {"tree": TREE, "page": 1, "told": 3, "above": False}),
    (writes.lowering, {"tree": TREE, "node": 4, "told": 0, "above": True}),
    (search.search_row, {**SEARCH, "above": True}),
]
# Each class, and its methods, with their arguments.
MAKING = {
    Steps: {"most": 12, "bounds": [3, 6, 10]}, Tree: {"classes": 3, "told": STALE}, Disk: {"tree": TREE},
    Table: {"steps": STEPS, "rooms": ROOMS, "setting": BELOW}, Session: {"steps": STEPS, "weights": WEIGHTS},
    Console: {"steps": STEPS, "weights": WEIGHTS},
}
METHODS = {
    Steps: [("class_of", {"room": 5}), ("__call__", {"room": 5}), ("need", {"size": 4})],
    Tree: [("leaf", {"page": 1}), ("way", {"page": 1}), ("greater", {"node": 2}), ("missed", {}), ("mended", {}),
           ("with_told", {"node": 4, "told": 0})],
    Disk: [("with_row", {"row": [(4, 0)]}), ("with_flush", {}), ("can_tell", {"node": 4}), ("trees", {"order": "anyhow"}),
           ("count", {"order": "anyhow"}), ("can_have", {"value": TREE, "order": "in order"}),
           ("missable", {"order": "anyhow"}), ("missing", {"order": "anyhow"})],
    Table: [("put", {"size": 5}), ("drop", {"page": 1, "more": 2}), ("clean", {}), ("flush", {}),
            ("crash", {"told": [3, 2, 3, 1, 2, 2, 3]}), ("hidden", {})],
    Session: [("put", {"bound": 1}), ("drop", {"bound": 3}), ("forget", {"size": 4}), ("tune", {"many": 2}),
              ("tried", {"bounds": [1, 2]})],
    Console: [("execute", {"line": "bounds"}), ("__call__", {"line": "put 4"})],
}


def plain(answer):
    """What a generator yields, as a list; all else as it is."""
    return list(answer) if hasattr(answer, "__next__") else answer


def backward(named):
    return dict(reversed(list(named.items())))


class ByName(Case):
    def test_each_function_is_there(self):
        for module, functions in test_interface.FUNCTIONS.items():
            for name in functions:
                self.assertIn(getattr(module, name), CALLS, name)

    def test_functions(self):
        for call, named in CALLS.items():
            answer = plain(call(*named.values()))
            self.assertEqual(plain(call(**named)), answer, call)
            self.assertEqual(plain(call(**backward(named))), answer, call)
            if len(named) > 1:
                first, *rest = named
                mixed = {name: named[name] for name in reversed(rest)}
                self.assertEqual(plain(call(named[first], **mixed)), answer, call)

    def test_those_by_name_alone(self):
        for call, named in NAMED:
            self.assertEqual(call(**backward(named)), call(**named))
            with self.assertRaises(TypeError):
                call(*named.values())
        for kind, values in ((Setting, ["above"]), (Setting().changed, ["above"]), (Table, [STEPS, ROOMS, BELOW, "late"])):
            self.assertRaises(TypeError, kind, *values)

    def test_classes_and_their_methods(self):
        for kind, named in MAKING.items():
            for name, given in METHODS[kind]:
                answers = []
                for one in (kind(*named.values()), kind(**named), kind(**backward(named))):
                    method = getattr(one, name)
                    answers.append(plain(method(*given.values()) if not answers else method(**backward(given))))
                self.assertEqual(answers[1:], answers[:1] * 2, (kind, name))


class Same(Case):
    def test_the_same_call_tells_the_same_again_and_changes_nothing(self):
        for call, named in CALLS.items():
            given = {name: self.copy(value) for name, value in named.items()}
            first, second = plain(call(**named)), plain(call(**named))
            self.assertEqual(first, second)
            self.assertEqual(named, given)
            if isinstance(first, (list, dict)):
                first.clear()
                self.assertEqual(plain(call(**named)), second, call)

    @staticmethod
    def copy(value):
        return value.copy() if isinstance(value, (list, dict)) else value

    def test_an_error_of_the_leftmost_wrong_argument(self):
        # None is no right value for any of them, but where any value is judged.
        judged = {"value", "table", "paper"}
        for call, named in CALLS.items():
            if "text" in named:
                continue
            told = []
            for at, name in enumerate(named):
                wrong = {other: named[other] if place < at else None for place, other in enumerate(named)}
                if name not in judged:
                    with self.assertRaises(errors.RoomError) as caught:
                        plain(call(**wrong))
                    told.append((caught.exception.__class__, tuple(vars(caught.exception).items())))
                    with self.assertRaises(told[-1][0]) as alone:
                        plain(call(**{**named, name: None}))
                    self.assertEqual(tuple(vars(alone.exception).items()), told[-1][1])


class Examples(unittest.TestCase):
    def test_of_the_document(self):
        examples = doctest.DocTestParser().get_doctest(EXAMPLES, {}, "examples", None, 0)
        runner = doctest.DocTestRunner(verbose=False)
        self.assertEqual((len(examples.examples), runner.run(examples).failed), (11, 0))


class OnePromise(Case):
    """From end to end: what the modules tell of one thing fits together."""

    def test_a_setting_misses_just_if_a_paper_and_a_run_show_it(self):
        for setting in Setting.every():
            shown = [papers.miss_paper(setting), runs.miss_run(setting, 2, 8)]
            self.assertEqual([one is not None for one in shown], [setting.misses] * 2)
            if setting.misses:
                beginning, word, done, told = shown[0]
                deed = (word, 0, 1 if word == "raise" else 0)
                self.says_true(runs.shows_miss(setting, Tree(1, beginning), [("cut", deed, done, told)]))

    def test_a_table_does_what_a_run_does(self):
        chance = random.Random(221)
        for setting in Setting.every():
            live = Table(STEPS, ROOMS, setting)
            run = []
            for _ in range(6):
                page = chance.randrange(4)
                if live[page] < 12 and chance.random() < 0.5:
                    before = live.tree[live.tree.leaf(page)]
                    live.drop(page, chance.randint(1, 12 - live[page]))
                    if live.steps(live[page]) > before:
                        run.append(("raise", page, live.steps(live[page])))
                elif chance.random() < 0.5:
                    live.flush()
                    run.append(("flush",))
                else:
                    told = tuple(live.disk.flushed.told)
                    live.crash(told)
                    run.append(("crash", told))
                self.assertEqual(runs.run_end(setting, Tree.exact(STEPS, ROOMS), run), live.disk)

    def test_best_steps_leave_the_least_room_idle(self):
        chance = random.Random(222)
        for _ in range(30):
            sizes = sorted(chance.sample(range(1, 41), 6))
            for many in range(1, 5):
                steps = Steps(40, best.best_steps(sizes, many))
                least = best.least_greatest(sizes, many)
                idle = [losses.idle_room(steps, size) - (size - 1) for size in sizes]
                self.assertEqual(max(idle), least)
                self.assertEqual(ladders.ladder(sizes)[many - 1], least)
                self.assertLessEqual(ladders.fewest_bounds(sizes, least), many)
                live = Table(steps, [losses.idle_room(steps, sizes[0])] * 4, Setting())
                self.assertIsNone(live.put(sizes[0]))

    def test_a_session_tuned_and_a_text_of_it(self):
        one = Session(Steps(1000, [1000]), WEIGHTS)
        for many in range(1, 9):
            one.tune(many)
            self.assertEqual(one.steps.bounds, best.best_steps(list(WEIGHTS), many))
            read = Session(texts.read_steps(texts.steps_text(one.steps)), texts.read_weights(texts.weights_text(one.weights)))
            self.assertEqual((read.steps, read.weights), (one.steps, one.weights))
            console = Console(one.steps, one.weights)
            self.assertEqual(console("worst"), [str(best.least_greatest(list(WEIGHTS), many))])

    def test_trees_of_a_table_as_texts(self):
        chance = random.Random(223)
        for pages in (2, 8, 32):
            tree = upright_tree(chance, 3, pages)
            self.assertEqual(texts.read_tree(texts.tree_text(tree)), tree)
            self.assertEqual(disks.Disk(texts.read_tree(texts.tree_text(tree))), Disk(tree))
            self.assertEqual(trees.Tree(3, tree.told), tree)


if __name__ == "__main__":
    unittest.main()
