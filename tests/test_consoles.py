"""Promise 21: consoles; with promise 2, as far as it speaks of them."""

import random
import time
import unittest

from roomtold import errors
from roomtold.best import best_steps, least_greatest
from roomtold.consoles import Console
from roomtold.errors import BadArgument, BadCommand
from roomtold.ladders import fewest_bounds
from roomtold.losses import greatest_loss, idle_room, loss, losses, sum_of_losses
from roomtold.sessions import Session
from roomtold.steps import Steps
from tests.checks import Case
from tests.odd import NO_OBJECTS
from tests.test_losses import NO_STEPS, NO_WEIGHTS

WEIGHTS = {7: 2, 4: 1, 10: 0}
# How many numbers stand behind each word.
WORDS = {
    "bounds": 0, "weights": 0, "need": 1, "loss": 1, "losses": 0, "worst": 0, "sum": 0, "least": 1, "best": 1, "idle": 1,
    "fewest": 1, "put": 1, "drop": 1, "weigh": 2, "forget": 1, "limit": 1, "tune": 1, "undo": 0, "redo": 0,
}


def console(bounds=(3, 6, 10), weights=None, most=12):
    return Console(Steps(most, bounds), WEIGHTS if weights is None else weights)


def all_of(one):
    return (one.steps, list(one.weights.items()), len(one))


def dash(number):
    return "-" if number is None else str(number)


class Consoles(Case):
    def says(self, one, line, *told):
        """The line is answered so, by execute and by the object called."""
        answer = one.execute(line)
        self.assertEqual((answer, answer.__class__), (list(told), list), line)
        self.assertEqual({text.__class__ for text in answer} | {str}, {str})

    def refused(self, one, line, why=None, **fields):
        """The line is refused, with a cause of this class and with these fields, if any; nothing has changed."""
        before = all_of(one)
        for call in (one.execute, one):
            with self.assertRaises(BadCommand) as caught:
                call(line)
            error = caught.exception
            self.assertIs(error.__class__, BadCommand)
            self.assertIs(error.command, line)
            self.assertIs(error.__cause__.__class__, why or None.__class__, repr(line))
            for name, value in fields.items():
                self.assertEqual(getattr(error.__cause__, name), value)
        self.assertEqual(all_of(one), before)


class Made(Consoles):
    def test_as_given(self):
        one = console()
        self.assertEqual(all_of(one), (Steps(12, [3, 6, 10]), [(4, 1), (7, 2), (10, 0)], 0))
        self.assertEqual(all_of(Console(weights=WEIGHTS, steps=Steps(12, [3, 6, 10]))), all_of(one))
        for name in ("steps", "weights"):
            with self.assertRaises(AttributeError):
                setattr(one, name, getattr(one, name))
        self.assertEqual(repr(one), repr(one))

    def test_wrong(self):
        self.wrong(Console, ("steps", Steps(12, [3]), BadArgument, "value", NO_STEPS),
                   ("weights", {12: 1}, BadArgument, "value", NO_WEIGHTS + [{13: 1}, {1: 1, 1000: 0}]))

    def test_nothing_given_is_kept_and_what_is_told_belongs_to_the_caller(self):
        weights = dict(WEIGHTS)
        one = console(weights=weights)
        one("weigh 1 1")
        self.assertEqual(list(weights.items()), [(7, 2), (4, 1), (10, 0)])
        weights.clear()
        one.weights.clear()
        one.execute("weights").clear()
        one.steps.bounds.clear()
        self.assertEqual(all_of(one), (Steps(12, [3, 6, 10]), [(1, 1), (4, 1), (7, 2), (10, 0)], 1))
        self.says(one, "weights", "1 1", "4 1", "7 2", "10 0")

    def test_called_and_by_name(self):
        one = console()
        self.assertEqual([one("bounds"), one(line="bounds"), one.execute(line="bounds")], [["3 6 10"]] * 3)
        self.assertEqual([one("put 1"), one.execute("put 2"), one(line="undo")], [["1"], ["2"], ["1"]])


class Asks(Consoles):
    def test_each_by_hand(self):
        one = console()
        self.says(one, "bounds", "3 6 10")
        self.says(one, "weights", "4 1", "7 2", "10 0")
        for size, need in ((1, "1"), (3, "1"), (4, "2"), (10, "3"), (11, "-"), (12, "-")):
            self.says(one, f"need {size}", need)
        for size, told in ((1, "2"), (3, "0"), (7, "3"), (11, "-"), (12, "-")):
            self.says(one, f"loss {size}", told)
        self.says(one, "losses", "4 2", "7 3", "10 0")
        self.says(one, "worst", "3")
        self.says(one, "sum", "8")
        for many, least, best in ((1, "6", "10"), (2, "3", "4 10"), (3, "0", "4 7 10"), (8, "0", "4 7 10")):
            self.says(one, f"least {many}", least)
            self.says(one, f"best {many}", best)
        for size, room in ((1, "2"), (3, "2"), (10, "9"), (11, "12"), (12, "12")):
            self.says(one, f"idle {size}", room)
        for worst, many in ((0, "3"), (2, "3"), (3, "2"), (5, "2"), (6, "1"), (1000, "1")):
            self.says(one, f"fewest {worst}", many)
        self.assertEqual(all_of(one), all_of(console()))

    def test_none_is_told_by_a_dash(self):
        one = console([3], {1: 5, 11: 0, 3: 2})
        self.says(one, "losses", "1 2", "3 0", "11 -")
        self.says(one, "worst", "-")
        self.says(one, "sum", "-")
        one = console([1000], {size: 1 for size in range(1, 10)}, 1000)
        self.says(one, "fewest 0", "-")
        self.says(one, "fewest 1", "5")
        self.says(one, "idle 1000", "999")

    def test_0_is_told_by_its_figure(self):
        one = console([1], {1: 0}, 1)
        for line, told in (("losses", "1 0"), ("worst", "0"), ("sum", "0"), ("least 1", "0"), ("weights", "1 0"),
                           ("loss 1", "0"), ("idle 1", "0"), ("bounds", "1")):
            self.says(one, line, told)

    def test_against_the_functions(self):
        chance = random.Random(211)
        begin = time.perf_counter()
        for many in range(1, 31):
            steps = Steps(1000, sorted(chance.sample(range(1, 1001), chance.randint(1, 8))))
            weights = {size: chance.randint(0, 1000) for size in chance.sample(range(1, 1001), many)}
            one, sizes = Console(steps, weights), sorted(weights)
            self.says(one, "bounds", " ".join(map(str, steps.bounds)))
            self.says(one, "weights", *[f"{size} {weights[size]}" for size in sizes])
            self.says(one, "losses", *[f"{size} {dash(told)}" for size, told in losses(steps, sizes).items()])
            self.says(one, "worst", dash(greatest_loss(steps, sizes)))
            self.says(one, "sum", dash(sum_of_losses(steps, weights)))
            for size in [1, 1000] + sizes:
                self.says(one, f"need {size}", dash(steps.need(size)))
                self.says(one, f"loss {size}", dash(loss(steps, size)))
                self.says(one, f"idle {size}", str(idle_room(steps, size)))
            for bounds in range(1, 9):
                self.says(one, f"least {bounds}", str(least_greatest(sizes, bounds)))
                self.says(one, f"best {bounds}", " ".join(map(str, best_steps(sizes, bounds))))
            for worst in (0, 1, 22, 333, 1000):
                self.says(one, f"fewest {worst}", dash(fewest_bounds(sizes, worst)))
        self.assertLess(time.perf_counter() - begin, 20)


class Edits(Consoles):
    def test_each_by_hand(self):
        one = console()
        self.says(one, "put 1", "1")
        self.says(one, "drop 10", "2")
        self.says(one, "bounds", "1 3 6")
        self.says(one, "worst", "-")
        self.says(one, "weigh 12 1000", "3")
        self.says(one, "weigh 12 0", "4")
        self.says(one, "forget 10", "5")
        self.says(one, "weights", "4 1", "7 2", "12 0")
        self.says(one, "limit 1000", "6")
        self.says(one, "put 1000", "7")
        self.says(one, "need 1000", "4")
        self.says(one, "tune 2", "8")
        self.says(one, "tune 2", "9")
        self.says(one, "bounds", "7 12")
        self.says(one, "undo", "8")
        self.says(one, "undo", "7")
        self.says(one, "bounds", "1 3 6 1000")
        self.says(one, "redo", "8")
        self.says(one, "bounds", "7 12")
        self.assertEqual(all_of(one), (Steps(1000, [7, 12]), [(4, 1), (7, 2), (12, 0)], 8))
        for left in range(7, -1, -1):
            self.says(one, "undo", str(left))
        self.assertEqual(all_of(one), all_of(console()))
        for left in range(1, 10):
            self.says(one, "redo", str(left))

    def test_lines_that_cannot_be_done(self):
        one = console()
        self.refused(one, "undo", errors.NothingLeft)
        self.refused(one, "redo", errors.NothingLeft)
        one("put 1")
        one("undo")
        for bound in (3, 0, 13, 9999):
            self.refused(one, f"put {bound}", errors.BadChange, value=bound)
        for bound in (1, 0, 13, 9999):
            self.refused(one, f"drop {bound}", errors.BadChange, value=bound)
        for size in (0, 13, 9999):
            self.refused(one, f"weigh {size} 1001", errors.BadSize, value=size)
            for word in ("need", "loss", "idle"):
                self.refused(one, f"{word} {size}", errors.BadSize, value=size)
        for weight in (1001, 9999):
            self.refused(one, f"weigh 4 {weight}", errors.BadNumber, number=weight)
        for size in (0, 1, 13, 9999):
            self.refused(one, f"forget {size}", errors.BadChange, value=size)
        for number, part in ((0, "most"), (1001, "most"), (9999, "most"), (9, "bounds"), (1, "bounds")):
            self.refused(one, f"limit {number}", errors.BadSteps, part=part)
        for many in (0, 9, 10, 9999):
            for word in ("tune", "least", "best"):
                self.refused(one, f"{word} {many}", errors.BadNumber, number=many)
        for worst in (1001, 9999):
            self.refused(one, f"fewest {worst}", errors.BadNumber, number=worst)
        # What was taken back is there still.
        self.says(one, "redo", "1")

    def test_lines_that_cannot_be_done_at_the_edges(self):
        one = console([3], {4: 1}, 12)
        self.refused(one, "drop 3", errors.BadChange, value=3)
        self.refused(one, "forget 4", errors.BadChange, value=4)
        self.refused(one, "limit 3", errors.BadNumber, number=3)
        one = console([1, 2, 3, 4, 5, 6, 7, 8], {size: 1 for size in range(1, 31)}, 100)
        self.refused(one, "put 9", errors.BadChange, value=9)
        self.refused(one, "weigh 31 1", errors.BadChange, value=31)

    def test_against_a_session(self):
        chance = random.Random(212)
        for _ in range(20):
            one, other = console([3], {4: 1}, 1000), Session(Steps(1000, [3]), {4: 1})
            for _ in range(40):
                word = chance.choice(["put", "drop", "weigh", "forget", "limit", "tune", "undo", "redo"])
                numbers = [chance.choice([0, 1, 2, 3, 4, 5, 8, 9, 40, 999, 1000, 1001, 9999]) for _ in range(WORDS[word])]
                line = " ".join([word, *map(str, numbers)])
                try:
                    self.edit(other, word, numbers)
                except (errors.RoomError, errors.NothingLeft) as error:
                    self.refused(one, line, error.__class__, **vars(error))
                else:
                    self.says(one, line, str(len(other)))
                self.assertEqual(all_of(one), (other.steps, list(other.weights.items()), len(other)))

    @staticmethod
    def edit(session, word, numbers):
        if word == "weigh":
            session[numbers[0]] = numbers[1]
        elif word == "limit":
            session.limit = numbers[0]
        else:
            getattr(session, word)(*numbers)


class Lines(Consoles):
    def lines(self):
        """A line of each word, with right numbers."""
        for word, many in WORDS.items():
            yield word, " ".join([word] + ["4"] * many)

    def test_another_form(self):
        for word, line in self.lines():
            one = console()
            one("put 4")
            bent = [line + " ", " " + line, line + "\n", "\n" + line, line + "\t", line + " 4", line + " x", line.upper(),
                    line.capitalize(), line.replace(" ", "  "), line.replace(" ", "\t"), line.replace(" ", "\xa0"),
                    line.replace(" ", ""), line.replace(" ", "\n"), line + line, line + "\n" + line, line + ";",
                    line.replace("4", "04"), line.replace("4", "0004"), line.replace("4", "00"), line.replace("4", "00004"),
                    line.replace("4", "10000"), line.replace("4", "-4"), line.replace("4", "+4"), line.replace("4", "4.0"),
                    line.replace("4", "\u0664"), line.replace("4", "\u00b2"), line.replace("4", "\uff14"),
                    line.replace("4", "4_0"), line.replace("4", "x"), line.replace("4", ""), word + "s", word[:-1],
                    line.replace("4", "0x4"), line.encode()]
            if " " in line:
                bent += [word, line[:-2]]
            for other in bent:
                if other != line and other not in WORDS:
                    self.refused(one, other)

    def test_every_sign_of_a_line(self):
        one = console()
        for at in range(len("weigh 4 7") + 1):
            for sign in " \t\n-+.x\u0664":
                line = "weigh 4 7"[:at] + sign + "weigh 4 7"[at:]
                self.refused(one, line)

    def test_numbers_of_one_to_four_figures(self):
        one = console([1], {1: 1}, 1000)
        for number in (0, 9, 10, 99, 100, 999, 1000):
            self.says(one, f"fewest {number}", "1")
        self.refused(one, "fewest 1001", errors.BadNumber, number=1001)
        self.refused(one, "fewest 9999", errors.BadNumber, number=9999)
        for number in ("10000", "00", "01", "007", "0000", "01000", "99999", "9" * 5000):
            self.refused(one, f"fewest {number}")
        self.says(one, "weigh 1 0", "1")
        self.refused(one, "weigh 01 0")
        self.refused(one, "weigh 1 00")

    def test_any_other_value(self):
        one = console()
        for value in NO_OBJECTS + ["", " ", "\n", "help", "4", "0", "bounds?", "putt 4", "sum 1", "limit", "weigh 4",
                                   ["bounds"], ("bounds",), b"bounds", Console, one]:
            self.refused(one, value)

    def test_the_same_line_tells_the_same_again(self):
        one = console()
        for word, line in self.lines():
            if word in ("bounds", "weights", "need", "loss", "losses", "worst", "sum", "least", "best", "idle", "fewest"):
                self.assertEqual(one(line), one(line))


if __name__ == "__main__":
    unittest.main()
