"""The marks of a text, taken one after another; a mark that no text goes on with is refused at its place."""

from paperbest.errors import InvalidText
from paperbest.lexer import DIGITS, LETTERS, marks_of
from paperbest.numbers import fraction_of
from paperbest.tasks import is_name

SIGNS = ("+", "-")


class Source:
    """Marks that are taken one after another.

    With names, only these are names. If the text is to be completed, what is offered where it ends
    becomes a further mark.
    """

    def __init__(self, text, names, completing):
        if not isinstance(text, str):
            raise InvalidText(-1, -1)
        self.spots = marks_of(text)
        self.marks = [mark for _, _, mark in self.spots]
        self.last = (text.count("\n"), len(text) - text.rfind("\n") - 1)
        self.names = names
        self.completing = completing
        self.done = 0
        self.found = {}

    def now(self):
        """The next mark; an empty string if there is none."""
        return self.marks[self.done] if self.done < len(self.marks) else ""

    def completion(self):
        """The marks that completed the text."""
        return self.marks[len(self.spots):]

    def step(self):
        """Go behind the next mark."""
        self.done += 1

    def fail(self):
        """Refuse the next mark, or that the text ends."""
        line, at = self.last if self.done >= len(self.spots) else self.spots[self.done][:2]
        raise InvalidText(line, at)

    def lacks(self):
        """Whether the text ends here and is to be completed."""
        return self.completing and self.done == len(self.marks)

    def offer(self, *marks):
        """Let the text go on with some marks, if it ends here and is to be completed."""
        if self.lacks():
            self.marks.extend(marks)

    def expect(self, mark):
        """Take this mark."""
        self.take_of((mark,))

    def take_of(self, marks):
        """Take one of some marks, and return it."""
        self.offer(marks[0])
        mark = self.now()
        if mark not in marks:
            self.fail()
        self.step()
        return mark

    def knows(self, mark):
        """Whether a mark is a name here."""
        return is_name(mark) if self.names is None else mark in self.names

    def has_names(self, many):
        """Whether there are so many names."""
        return self.names is None or len(self.names) >= many


def take_newlines(source):
    """Take all newlines that follow."""
    while source.now() == "\n":
        source.step()


def take_name(source, barred):
    """Take a name that is none of some others."""
    if source.lacks():
        source.offer(fresh_name(barred))
    name = source.now()
    if not source.knows(name) or name in barred:
        source.fail()
    source.step()
    source.found[name] = True
    return name


def fresh_name(barred):
    """A short name that is none of some others."""
    names = [""]
    while True:
        names = [name + letter for name in names for letter in LETTERS]
        for name in names:
            if is_name(name) and name not in barred:
                return name


def is_numeral(mark):
    """Whether a mark is a number or a quotient of two."""
    if mark == "" or mark[0] not in DIGITS:
        return False
    runs = mark.split("/")
    return all([run == "0" or run[0] != "0" for run in runs]) and runs[1:] != ["0"]


def take_fraction(source):
    """Take a numeral as a fraction."""
    source.offer("1")
    if not is_numeral(source.now()):
        source.fail()
    runs = source.now().split("/")
    source.step()
    return fraction_of(int(runs[0]), int(runs[1]) if len(runs) == 2 else 1)


def take_whole(source, least, most=None):
    """Take a whole numeral between two integers; there may be no greatest one."""
    source.offer(str(least))
    mark = source.now()
    if not is_numeral(mark) or "/" in mark:
        source.fail()
    number = int(mark)
    if number < least or (most is not None and number > most):
        source.fail()
    source.step()
    return number


def take_value(source, least=None):
    """Take a whole numeral, perhaps with a sign before it, from a least one on if there is one."""
    if least is not None and least > 0:
        return take_whole(source, least)
    source.offer("0")
    if source.now() == "-":
        source.step()
        return -take_whole(source, 0, None if least is None else -least)
    return take_whole(source, 0)
