"""Promises 11 and 1 (b): miss papers and their judge; with promise 2, as far as it speaks of them."""

import itertools
import timeit
import unittest

from roomtold.disks import Disk
from roomtold.errors import BadArgument
from roomtold.papers import is_miss_paper, miss_paper, miss_papers
from roomtold.settings import Setting
from roomtold.trees import Tree
from tests import played
from tests.checks import Case, firsts
from tests.odd import NO_OBJECTS, EqualToAll, Falling
from tests.test_settings import NO_SETTINGS, parts_of

TOLD = list(itertools.product((0, 1), repeat=3))


def played_papers(setting):
    """All miss papers of a setting, by what the document says of them."""
    papers = []
    for beginning in TOLD:
        if max(beginning[1:]) <= beginning[0]:
            told = [None, *beginning]
            raised = played.raise_page(list(told), 0, 1, setting.raises == "above")
            lowered = played.lower_node(list(told), 2, 0, setting.lowers == "above")
            papers += cut(setting, beginning, "raise", raised, setting.flush_raises)
            papers += cut(setting, beginning, "lower", lowered, setting.flush_lowers)
    return sorted(papers)


def cut(setting, beginning, word, row, early):
    papers = []
    for done in range(1, len(row) + 1):
        flushed = [None, *beginning]
        pending = row[:done]
        if early:
            for node, told in row[:done - 1]:
                flushed[node] = told
            pending = row[done - 1:done]
        for left in played.can_have(flushed, pending, setting.order):
            told = [None, *left]
            if played.missed(played.mend(told) if setting.mends else told):
                papers.append((beginning, word, done, left))
    return papers


class Papers(Case):
    def test_each_once_ascending(self):
        for setting in Setting.every():
            papers = list(miss_papers(setting))
            self.assertEqual(papers, played_papers(setting), parts_of(setting))
            self.assertEqual(papers, sorted(set(papers)))

    def test_a_setting_that_misses_has_one_and_no_other_has(self):
        for setting in Setting.every():
            papers = list(miss_papers(setting))
            self.assertIs(len(papers) > 0, setting.misses)
            if setting.misses:
                self.assertIn(miss_paper(setting), papers)
                self.says_true(is_miss_paper(setting, miss_paper(setting)))
            else:
                self.assertIsNone(miss_paper(setting))

    def test_some_by_hand(self):
        below = Setting(raises="below", flush_raises=True, flush_lowers=True)
        # Ahead of the flush of the second write the disk can be as it was ahead of that write.
        self.assertEqual(list(miss_papers(below)), [((0, 0, 0), "raise", done, (0, 1, 0)) for done in (1, 2)])
        above = Setting(lowers="above")
        self.assertEqual(list(miss_papers(above)), [((1, 1, 0), "lower", done, (0, 1, 0)) for done in (1, 2)])
        unsure = Setting(order="anyhow", flush_lowers=True)
        self.assertEqual(list(miss_papers(unsure)), [((0, 0, 0), "raise", 2, (0, 1, 0))])
        self.assertEqual(miss_paper(unsure), ((0, 0, 0), "raise", 2, (0, 1, 0)))
        self.assertEqual(list(miss_papers(unsure.changed(mends=True))), [])

    def test_by_name(self):
        setting = Setting(raises="below")
        self.assertEqual(list(miss_papers(setting=setting))[0], miss_paper(setting=setting))
        self.says_true(is_miss_paper(value=miss_paper(setting), setting=setting))

    def test_told_again_the_same(self):
        for setting in Setting.every():
            parts = parts_of(setting)
            self.assertEqual(list(miss_papers(setting)), list(miss_papers(setting)))
            self.assertEqual(miss_paper(setting), miss_paper(setting))
            self.assertEqual(parts_of(setting), parts)

    def test_kinds_of_values(self):
        for paper in miss_papers(Setting(raises="below")):
            self.assertEqual([part.__class__ for part in paper], [tuple, str, int, tuple])
            self.assertEqual({told.__class__ for told in paper[0] + paper[3]}, {int})


class Accepted(Case):
    def test_the_same_papers_in_the_same_order_as_the_judge_accepts(self):
        for setting in Setting.every():
            # All tuples of the form, ascending, with some more writes than any deed has.
            forms = itertools.product(TOLD, ["lower", "raise"], range(1, 5), TOLD)
            accepted = [value for value in forms if is_miss_paper(setting, value)]
            self.assertEqual(list(miss_papers(setting)), accepted, parts_of(setting))
            self.assertEqual([value.__class__ for value in miss_papers(setting)], [tuple] * len(accepted))
            if accepted:
                self.assertIn(miss_paper(setting), accepted)
            else:
                self.assertIsNone(miss_paper(setting))

    def test_quickly(self):
        # The quickest of some calls, as others may be held up by the machine.
        for call in (lambda setting: list(miss_papers(setting)), miss_paper):
            for setting in Setting.every():
                took = min(timeit.repeat(lambda: call(setting), number=4, repeat=9)) / 4
                self.assertLess(took, 0.00025, parts_of(setting))


class Judge(Case):
    def test_all_tuples_of_the_form_and_about_it(self):
        for setting in Setting.every():
            papers = set(played_papers(setting))
            for value in itertools.product(TOLD, ["raise", "lower"], range(4), TOLD):
                self.assertIs(is_miss_paper(setting, value), value in papers)

    def bent(self, paper):
        """A right paper bent in each of its parts."""
        beginning, word, done, told = paper
        trees = [EqualToAll(), Falling(), None, 1, "010", (), [], (0, 0), (0, 0, 0, 0), (0,) * 7, (0, 0, 2), (0, 0, -1),
                 Tree(1, (0, 1, 0))]
        for other in trees + list(self.bent_told(beginning)):
            yield (other, word, done, told)
        for other in trees + list(self.bent_told(told)):
            yield (beginning, word, done, other)
        for other in ["", "put", "Raise", "raises", b"raise", None, 0, [word], (word,), EqualToAll(), Falling(), {}]:
            yield (beginning, other, done, told)
        for other in [0, -1, 3, 4, True, False, 1.0, 2.0, "1", None, [done], EqualToAll(), Falling(), 10 ** 100]:
            yield (beginning, word, other, told)
        # An order of another length, or another kind.
        yield from [paper[:3], paper + (0,), list(paper), (paper,), (word, beginning, done, told), (), [paper]]
        yield {at: part for at, part in enumerate(paper)}

    @staticmethod
    def bent_told(told):
        yield list(told)
        for at in range(3):
            yield told[:at] + (bool(told[at]),) + told[at + 1:]
            yield told[:at] + (float(told[at]),) + told[at + 1:]
            yield told[:at] + (str(told[at]),) + told[at + 1:]
            yield told[:at] + (None,) + told[at + 1:]
            yield told[:at] + (EqualToAll(),) + told[at + 1:]
            yield told[:at] + (Falling(),) + told[at + 1:]

    def test_right_papers_bent_in_each_of_their_parts(self):
        for setting in Setting.every():
            for paper in played_papers(setting):
                self.says_true(is_miss_paper(setting, paper))
                for value in self.bent(paper):
                    self.says_false(is_miss_paper(setting, value))

    def test_a_tree_that_is_not_upright(self):
        below = Setting(raises="below")
        self.says_true(is_miss_paper(below, ((0, 0, 0), "raise", 1, (0, 1, 0))))
        self.says_false(is_miss_paper(below, ((0, 0, 1), "raise", 1, (0, 1, 1))))
        self.says_false(is_miss_paper(below, ((0, 0, 1), "raise", 2, (0, 1, 1))))

    def test_a_tree_with_more_pages_is_not_the_least_one(self):
        below = Setting(raises="below")
        for pages in (4, 32):
            empty = (0,) * (2 * pages - 1)
            told = empty[:pages - 1] + (1,) + empty[pages:]
            self.says_false(is_miss_paper(below, (empty, "raise", 1, told)))

    def test_a_deed_that_writes_nothing(self):
        for setting in Setting.every():
            for told, done in itertools.product(TOLD, range(3)):
                self.says_false(is_miss_paper(setting, ((1, 1, 0), "raise", done, told)))
                self.says_false(is_miss_paper(setting, ((0, 0, 0), "lower", done, told)))

    def test_done_more_than_the_writes(self):
        # Of the root, which is told as much already, nothing is written.
        unsure = Setting(order="anyhow", raises="below")
        for done in (1, 2):
            self.says_false(is_miss_paper(unsure, ((1, 0, 1), "raise", done, (0, 1, 0))))
        self.says_false(is_miss_paper(unsure, ((0, 0, 0), "raise", 3, (0, 1, 0))))

    def test_a_disk_that_it_cannot_have_or_that_misses_nobody(self):
        below = Setting(raises="below")
        for told in TOLD:
            self.assertIs(is_miss_paper(below, ((0, 0, 0), "raise", 1, told)), told == (0, 1, 0))
        early = Setting(order="anyhow", flush_raises=True)
        self.says_false(is_miss_paper(early, ((0, 0, 0), "raise", 2, (0, 1, 0))))

    def test_what_mending_puts_right(self):
        paper = ((0, 0, 0), "raise", 1, (0, 1, 0))
        self.says_true(is_miss_paper(Setting(raises="below"), paper))
        self.says_false(is_miss_paper(Setting(raises="below", mends=True), paper))

    def test_values_of_any_other_form(self):
        disk = Disk(Tree(1, (0, 1, 0)))
        for setting in Setting.every()[::9]:
            for value in NO_OBJECTS + [disk, setting, Setting, "raise", ((0, 0, 0), "raise", 1)]:
                self.says_false(is_miss_paper(setting, value))


class Wrong(Case):
    def test_no_setting(self):
        for call in (miss_paper, firsts(miss_papers)):
            self.wrong(call, ("setting", Setting(), BadArgument, "value", NO_SETTINGS))
        for setting in NO_SETTINGS:
            for value in (((0, 0, 0), "raise", 1, (0, 1, 0)), None):
                self.raises(BadArgument, "value", setting, is_miss_paper, setting, value)

    def test_miss_papers_raises_when_its_first_value_is_asked_for(self):
        papers = miss_papers(None)
        self.assertRaises(BadArgument, next, papers)


if __name__ == "__main__":
    unittest.main()
