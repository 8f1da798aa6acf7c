"""The head of the interface: names, arguments and places as DOC.md writes them."""

import ast
import inspect
import pathlib
import unittest

from roomtold import (best, consoles, disks, errors, hidden, ladders, losses, papers, runs, search, sessions, settings,
                      steps, sums, tables, texts, trees, writes)

PLACES = {
    errors: ["RoomError", "BadSteps", "BadTree", "BadRooms", "BadPage", "BadNode", "BadClass", "BadSize", "BadArgument",
             "BadNumber", "BadSetting", "BadChange", "BadCommand", "BadText", "NothingLeft"],
    steps: ["Steps"],
    trees: ["Tree"],
    writes: ["raising", "lowering", "written", "stages"],
    search: ["good_pages", "found", "looked_at", "behind", "out_of_sight", "going", "search_row", "searches"],
    disks: ["Disk"],
    settings: ["Setting", "deed_row", "done_whole", "done_part", "crashed"],
    papers: ["miss_paper", "miss_papers", "is_miss_paper"],
    runs: ["is_run", "run_end", "shows_miss", "miss_run"],
    hidden: ["hidden_pages", "hidden_room", "clean_deeds", "cleaned"],
    tables: ["Table"],
    losses: ["loss", "losses", "greatest_loss", "sum_of_losses", "idle_room", "is_idle", "idle_tree"],
    best: ["cutting", "least_greatest", "best_steps", "least_paper", "shows_least"],
    sums: ["sum_table", "least_sum", "best_by_sum", "shows_table"],
    ladders: ["ladder", "sum_ladder", "fewest_bounds", "fewest_paper", "shows_fewest"],
    texts: ["steps_text", "tree_text", "weights_text", "read_steps", "read_tree", "read_weights"],
    sessions: ["Session"],
    consoles: ["Console"],
}

# The functions as the interface writes them, with what is given if nothing is said.
FUNCTIONS = {
    writes: {
        "raising": "(tree, page, told, *, above=True)", "lowering": "(tree, node, told, *, above=False)",
        "written": "(tree, row)", "stages": "(tree, row)",
    },
    search: {
        "good_pages": "(tree, steps, rooms, size)", "found": "(tree, steps, rooms, size)",
        "looked_at": "(tree, steps, rooms, size)", "behind": "(tree, steps, rooms, size)",
        "out_of_sight": "(tree, steps, rooms, size)", "going": "(tree, steps, rooms, size)",
        "search_row": "(tree, steps, rooms, size, *, above=False)", "searches": "(tree, steps, rooms, sizes)",
    },
    settings: {
        "deed_row": "(setting, tree, deed)", "done_whole": "(setting, disk, deed)",
        "done_part": "(setting, disk, deed, done)", "crashed": "(setting, disk, told)",
    },
    papers: {"miss_paper": "(setting)", "miss_papers": "(setting)", "is_miss_paper": "(setting, value)"},
    runs: {
        "is_run": "(setting, tree, value)", "run_end": "(setting, tree, run)", "shows_miss": "(setting, tree, value)",
        "miss_run": "(setting, classes, pages)",
    },
    hidden: {
        "hidden_pages": "(tree, steps, rooms)", "hidden_room": "(tree, steps, rooms)",
        "clean_deeds": "(tree, steps, rooms)", "cleaned": "(tree, steps, rooms)",
    },
    losses: {
        "loss": "(steps, size)", "losses": "(steps, sizes)", "greatest_loss": "(steps, sizes)",
        "sum_of_losses": "(steps, weights)", "idle_room": "(steps, size)", "is_idle": "(steps, rooms, size)",
        "idle_tree": "(steps, size, pages)",
    },
    best: {
        "cutting": "(sizes, worst)", "least_greatest": "(sizes, many)", "best_steps": "(sizes, many)",
        "least_paper": "(sizes, many)", "shows_least": "(sizes, many, value)",
    },
    sums: {
        "sum_table": "(weights, many)", "least_sum": "(weights, many)", "best_by_sum": "(weights, many)",
        "shows_table": "(weights, many, table)",
    },
    ladders: {
        "ladder": "(sizes)", "sum_ladder": "(weights)", "fewest_bounds": "(sizes, worst)",
        "fewest_paper": "(sizes, worst)", "shows_fewest": "(sizes, worst, number, paper)",
    },
    texts: {
        "steps_text": "(steps)", "tree_text": "(tree)", "weights_text": "(weights)", "read_steps": "(text)",
        "read_tree": "(text)", "read_weights": "(text)",
    },
}
GENERATORS = [writes.stages, search.going, disks.Disk.trees, papers.miss_papers]

# The arguments behind the object itself; a property has none.
METHODS = {
    steps.Steps: {
        "__init__": ["most", "bounds"], "bounds": None, "__len__": [], "__contains__": ["number"], "__iter__": [],
        "class_of": ["room"], "__call__": ["room"], "need": ["size"], "__or__": ["other"], "__eq__": ["other"],
    },
    trees.Tree: {
        "__init__": ["classes", "told"], "told": None, "__len__": [], "__getitem__": ["node"], "__iter__": [],
        "leaf": ["page"], "way": ["page"], "greater": ["node"], "missed": [], "is_upright": None, "mended": [],
        "with_told": ["node", "told"], "__eq__": ["other"],
    },
    disks.Disk: {
        "__init__": ["tree"], "now": None, "flushed": None, "pending": None, "with_row": ["row"], "with_flush": [],
        "__eq__": ["other"], "can_tell": ["node"], "trees": ["order"], "count": ["order"],
        "can_have": ["value", "order"], "missable": ["order"], "missing": ["order"],
    },
    settings.Setting: {
        "__init__": ["raises", "lowers", "flush_raises", "flush_lowers", "order", "mends"], "misses": None,
        "changed": ["raises", "lowers", "flush_raises", "flush_lowers", "order", "mends"], "__eq__": ["other"],
    },
    tables.Table: {
        "__init__": ["steps", "rooms", "setting", "drops"], "steps": None, "setting": None, "rooms": None, "disk": None,
        "tree": None, "drops": None, "__len__": [], "__getitem__": ["page"], "__iter__": [], "put": ["size"],
        "drop": ["page", "more"], "clean": [], "flush": [], "crash": ["told"], "hidden": [], "undo": [], "redo": [],
        "trial": [], "__eq__": ["other"],
    },
    sessions.Session: {
        "__init__": ["steps", "weights"], "steps": None, "limit": None, "weights": None, "__getitem__": ["size"],
        "__setitem__": ["size", "weight"], "__contains__": ["size"], "__iter__": [], "__len__": [], "put": ["bound"],
        "drop": ["bound"], "__ior__": ["other"], "forget": ["size"], "tune": ["many"], "undo": [], "redo": [],
        "trial": [], "tried": ["bounds"],
    },
    consoles.Console: {
        "__init__": ["steps", "weights"], "execute": ["line"], "__call__": ["line"], "steps": None, "weights": None,
        "__len__": [],
    },
}
SETTABLE = [(tables.Table, "drops"), (sessions.Session, "limit")]
STATIC = {
    trees.Tree: {"flat": ["classes", "pages", "told"], "exact": ["steps", "rooms"]},
    settings.Setting: {"every": []},
}


class Interface(unittest.TestCase):
    def test_each_stands_in_the_file_under_which_it_is_listed(self):
        for module, names in PLACES.items():
            tree = ast.parse(pathlib.Path(module.__file__).read_text())
            defined = [row.name for row in tree.body if isinstance(row, (ast.ClassDef, ast.FunctionDef))]
            for name in names:
                self.assertIn(name, defined)
                self.assertEqual(getattr(module, name).__module__, module.__name__)

    def test_each_method_stands_in_its_class_with_its_arguments(self):
        for kind, methods in METHODS.items():
            for name, arguments in methods.items():
                method = vars(kind)[name]
                if arguments is None:
                    self.assertIsInstance(method, property, name)
                    self.assertIs(method.fset is not None, (kind, name) in SETTABLE, name)
                else:
                    self.assertEqual(list(inspect.signature(method).parameters)[1:], arguments, name)

    def test_static_methods(self):
        for kind, methods in STATIC.items():
            for name, arguments in methods.items():
                self.assertIsInstance(vars(kind)[name], staticmethod, name)
                self.assertEqual(list(inspect.signature(getattr(kind, name)).parameters), arguments, name)

    def test_functions_with_their_arguments(self):
        for module, functions in FUNCTIONS.items():
            for name, arguments in functions.items():
                self.assertEqual(str(inspect.signature(getattr(module, name))), arguments, name)

    def test_all_functions_that_are_listed_are_written_down_here(self):
        for module, names in PLACES.items():
            functions = [name for name in names if inspect.isfunction(getattr(module, name))]
            self.assertEqual(sorted(FUNCTIONS.get(module, {})), sorted(functions))

    def test_the_parts_of_a_setting_are_given_by_name_alone(self):
        for method, defaults in [(settings.Setting.__init__, ["above", "below", False, False, "in order", False]),
                                 (settings.Setting.changed, [None] * 6)]:
            parts = list(inspect.signature(method).parameters.values())[1:]
            self.assertEqual({part.kind for part in parts}, {inspect.Parameter.KEYWORD_ONLY})
            self.assertEqual([part.default for part in parts], defaults)

    def test_drops_is_given_by_name_alone(self):
        part = inspect.signature(tables.Table.__init__).parameters["drops"]
        self.assertEqual((part.kind, part.default), (inspect.Parameter.KEYWORD_ONLY, "at once"))

    def test_generators(self):
        for generator in GENERATORS:
            self.assertTrue(inspect.isgeneratorfunction(generator), generator)


if __name__ == "__main__":
    unittest.main()
