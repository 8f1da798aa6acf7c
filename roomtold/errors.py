"""The errors that the program raises."""


class RoomError(ValueError):
    """Something that was given is not as it must be."""


class BadSteps(RoomError):
    """A part of steps is wrong: "most" or "bounds"."""

    def __init__(self, part):
        self.part = part


class BadTree(RoomError):
    """A part of a tree is wrong: "classes" or "told"."""

    def __init__(self, part):
        self.part = part


class BadRooms(RoomError):
    """A value is no rooms of the tree."""

    def __init__(self, value):
        self.value = value


class BadPage(RoomError):
    """A value is no page of the tree, or no number of pages that a tree can have."""

    def __init__(self, number):
        self.number = number


class BadNode(RoomError):
    """A value is no node of the tree, or no inner one."""

    def __init__(self, number):
        self.number = number


class BadClass(RoomError):
    """A value is no class that the tree can tell."""

    def __init__(self, value):
        self.value = value


class BadSize(RoomError):
    """A value is no size, or no room, by the steps."""

    def __init__(self, value):
        self.value = value


class BadArgument(RoomError):
    """A value is not of the kind that the argument takes."""

    def __init__(self, value):
        self.value = value


class BadNumber(RoomError):
    """A value is no number of those that the argument takes."""

    def __init__(self, number):
        self.number = number


class BadSetting(RoomError):
    """A part of a setting is wrong: the part's name."""

    def __init__(self, part):
        self.part = part


class BadChange(RoomError):
    """A change that cannot be made."""

    def __init__(self, value):
        self.value = value


class BadCommand(RoomError):
    """A line that a console cannot follow."""

    def __init__(self, command):
        self.command = command


class BadText(RoomError):
    """A text that cannot be read: the number of the line, or None."""

    def __init__(self, line):
        self.line = line


class NothingLeft(LookupError):
    """Nothing is left to take back, or to make again."""
