"""Consoles: sessions led by lines."""

from roomtold.best import best_steps, least_greatest
from roomtold.errors import BadCommand, NothingLeft, RoomError
from roomtold.ladders import fewest_bounds
from roomtold.losses import greatest_loss, idle_room, loss, losses, sum_of_losses
from roomtold.sessions import Session
from roomtold.texts import is_figures


def _text(number):
    return "-" if number is None else str(number)


def _in_line(numbers):
    """Several numbers in one line."""
    return " ".join([_text(number) for number in numbers])


def _ask_bounds(session, numbers):
    return [_in_line(session.steps.bounds)]


def _ask_weights(session, numbers):
    return [_in_line([size, weight]) for size, weight in session.weights.items()]


def _ask_need(session, numbers):
    return [_text(session.steps.need(numbers[0]))]


def _ask_loss(session, numbers):
    return [_text(loss(session.steps, numbers[0]))]


def _ask_losses(session, numbers):
    told = losses(session.steps, list(session.weights))
    return [_in_line([size, told[size]]) for size in told]


def _ask_worst(session, numbers):
    return [_text(greatest_loss(session.steps, list(session.weights)))]


def _ask_sum(session, numbers):
    return [_text(sum_of_losses(session.steps, session.weights))]


def _ask_least(session, numbers):
    return [_text(least_greatest(list(session.weights), numbers[0]))]


def _ask_best(session, numbers):
    return [_in_line(best_steps(list(session.weights), numbers[0]))]


def _ask_idle(session, numbers):
    return [_text(idle_room(session.steps, numbers[0]))]


def _ask_fewest(session, numbers):
    return [_text(fewest_bounds(list(session.weights), numbers[0]))]


def _put(session, numbers):
    session.put(numbers[0])


def _drop(session, numbers):
    session.drop(numbers[0])


def _weigh(session, numbers):
    session[numbers[0]] = numbers[1]


def _forget(session, numbers):
    session.forget(numbers[0])


def _limit(session, numbers):
    session.limit = numbers[0]


def _tune(session, numbers):
    session.tune(numbers[0])


def _undo(session, numbers):
    session.undo()


def _redo(session, numbers):
    session.redo()


# How many numbers stand behind each word.
NUMBERS = {
    "bounds": 0, "weights": 0, "need": 1, "loss": 1, "losses": 0, "worst": 0, "sum": 0, "least": 1, "best": 1,
    "idle": 1, "fewest": 1, "put": 1, "drop": 1, "weigh": 2, "forget": 1, "limit": 1, "tune": 1, "undo": 0, "redo": 0,
}
ASKS = {
    "bounds": _ask_bounds, "weights": _ask_weights, "need": _ask_need, "loss": _ask_loss, "losses": _ask_losses,
    "worst": _ask_worst, "sum": _ask_sum, "least": _ask_least, "best": _ask_best, "idle": _ask_idle,
    "fewest": _ask_fewest,
}
EDITS = {
    "put": _put, "drop": _drop, "weigh": _weigh, "forget": _forget, "limit": _limit, "tune": _tune, "undo": _undo,
    "redo": _redo,
}


def _told(session, word, numbers):
    """What a word with its numbers asks, or does, as a list of texts."""
    if word in ASKS:
        ask = ASKS[word]
        return ask(session, numbers)
    edit = EDITS[word]
    edit(session, numbers)
    return [str(len(session))]


def _is_number(word):
    """Whether a text is a number without zeros ahead, with at most four figures."""
    return is_figures(word) and (word == "0" or not word.startswith("0"))


def _is_command(line):
    """Whether any value is a line with a word, and with as many numbers as it takes."""
    if not isinstance(line, str):
        return False
    words = line.split(" ")
    if words[0] not in NUMBERS or len(words) - 1 != NUMBERS[words[0]]:
        return False
    return all([_is_number(word) for word in words[1:]])


class Console:
    """A session that is led by lines."""

    def __init__(self, steps, weights):
        self._session = Session(steps, weights)

    @property
    def steps(self):
        """The steps as they are now."""
        return self._session.steps

    @property
    def weights(self):
        """The weights, ascending, as a dict of the caller's own."""
        return self._session.weights

    def __len__(self):
        return len(self._session)

    def execute(self, line):
        """What a line asks, or does, as a list of texts."""
        if not _is_command(line):
            raise BadCommand(line)
        words = line.split(" ")
        numbers = [int(word) for word in words[1:]]
        try:
            return _told(self._session, words[0], numbers)
        except (RoomError, NothingLeft) as error:
            raise BadCommand(line) from error

    def __call__(self, line):
        return self.execute(line)
