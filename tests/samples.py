"""Trees and rooms that several tests go through."""

import itertools
import random

from roomtold.steps import Steps
from roomtold.trees import Tree

PAGES = [2, 4, 8, 16, 32]
STALE = [2, 2, 1, 2, 1, 1, 0]


def all_trees(classes, pages):
    """All trees with so many classes and pages."""
    for told in itertools.product(range(classes + 1), repeat=2 * pages - 1):
        yield Tree(classes, told)


def small_trees():
    yield from all_trees(1, 2)
    yield from all_trees(2, 2)
    yield from all_trees(3, 2)
    yield from all_trees(1, 4)
    yield from all_trees(2, 4)


def least_trees():
    """All trees with two pages and up to three classes, and all with four pages and one class."""
    for classes, pages in ((1, 2), (2, 2), (3, 2), (1, 4)):
        yield from all_trees(classes, pages)


def counted(pages):
    """A tree whose nodes are told unlike their neighbours."""
    return Tree(8, [node * 5 % 9 for node in range(1, 2 * pages)])


def stale_tree(chance, classes, pages, shift=0):
    """A tree whose nodes are told whatever comes; shift makes the inner ones be told more."""
    told = [chance.randint(0, classes) for _ in range(2 * pages - 1)]
    for at in range(pages - 1):
        told[at] = min(classes, told[at] + shift)
    return Tree(classes, told)


def upright_tree(chance, classes, pages):
    """An upright tree, told more than its greater here and there."""
    told = [classes] * (2 * pages)
    for node in range(1, 2 * pages):
        above = told[node // 2] if node > 1 else classes
        told[node] = above - (chance.randint(0, 2) == 0) * chance.randint(0, above)
    return Tree(classes, told[1:])


def some_steps(chance, classes, most):
    return Steps(most, sorted(chance.sample(range(1, most + 1), classes)))


def big_cases(seed, many):
    """Tuples (tree, steps, rooms) of all numbers of pages, stale, upright and exact trees."""
    chance = random.Random(seed)
    for _ in range(many):
        for pages in PAGES:
            classes = chance.randint(1, 8)
            steps = some_steps(chance, classes, chance.choice([classes, classes + 3, 40, 1000]))
            rooms = [chance.randint(0, steps.most) for _ in range(pages)]
            yield stale_tree(chance, classes, pages), steps, rooms
            yield stale_tree(chance, classes, pages, shift=4), steps, rooms
            yield upright_tree(chance, classes, pages), steps, tuple(rooms)
            yield Tree.exact(steps, rooms), steps, rooms
