"""What can be taken back: states, one behind the other, and trials of them."""

from roomtold.errors import NothingLeft


class History:
    """A state, those ahead of it, and those that were taken back."""

    def __init__(self, state, beside=None):
        self.state = state
        # Undo and redo leave this as it is, a trial that an error leaves does not.
        self.beside = beside
        self.past = []
        self.future = []

    def change(self, state):
        """Another state, behind which nothing can be made again."""
        self.past.append(self.state)
        self.future = []
        self.state = state

    def undo(self):
        """Takes the last change back."""
        if not self.past:
            raise NothingLeft()
        self.future.append(self.state)
        self.state = self.past.pop()

    def redo(self):
        """Makes the change again that was taken back last."""
        if not self.future:
            raise NothingLeft()
        self.past.append(self.state)
        self.state = self.future.pop()


class Trial:
    """A context that gives all back as it was ahead of it if an error leaves it."""

    def __init__(self, owner, history):
        self._owner = owner
        self._history = history

    def __enter__(self):
        history = self._history
        self._state = history.state
        self._beside = history.beside
        # Copies, as the history goes on to change its lists.
        self._past = list(history.past)
        self._future = list(history.future)
        return self._owner

    def __exit__(self, kind, value, trace):
        history = self._history
        if kind is not None:
            history.state = self._state
            history.beside = self._beside
            history.past = self._past
            history.future = self._future
