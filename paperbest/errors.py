"""The errors that the package raises; each keeps what it is made of as attributes."""


class TaskError(ValueError):
    """What all errors of the package are."""


class InvalidTask(TaskError):
    """A part of a task, told by its name, is wrong at an index."""

    def __init__(self, word, at):
        self.word = word
        self.at = at


class InvalidText(TaskError):
    """A text is wrong at a line and a place in this line."""

    def __init__(self, line, at):
        self.line = line
        self.at = at


class InvalidPoint(TaskError):
    """A value is no point, wrong at an index."""

    def __init__(self, at):
        self.at = at


class InvalidBox(TaskError):
    """A value is no box, wrong at an index."""

    def __init__(self, at):
        self.at = at


class InvalidPaper(TaskError):
    """A part of a paper is wrong at an index."""

    def __init__(self, at):
        self.at = at


class InvalidNumber(TaskError):
    """A number is wrong, told by a word."""

    def __init__(self, word):
        self.word = word


class Refused(TaskError):
    """A call is refused for a reason, told by a word."""

    def __init__(self, word):
        self.word = word
