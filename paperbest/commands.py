"""Reading the commands of a session and scripts of a task with commands."""

from paperbest.errors import InvalidText
from paperbest.lexer import marks_of
from paperbest.lines import take_goal
from paperbest.reader import goal_of, read_task, take_wishes
from paperbest.source import Source, take_name, take_value, take_whole
from paperbest.tasks import names_of


def read_command(names, text):
    """The word and the items of a line of a command for the names of a task."""
    source = Source(text, names, False)
    try:
        command = _take_command(source)
    except InvalidText:
        raise InvalidText(0, 0)
    return command


def _take_command(source):
    source.expect(":")
    word = source.take_of(tuple(TAKERS))
    taker = TAKERS[word]
    items = taker(source)
    if source.now() != "":
        source.fail()
    return (word,) + items


def _take_nothing(source):
    return ()


def _take_number(source):
    return (take_whole(source, 0),)


def _take_above(source):
    return (take_value(source),)


def _take_reach(source):
    return (take_name(source, ()), take_value(source), take_value(source))


def _take_try(source):
    return (tuple([take_value(source) for _ in source.names]),)


def _take_put(source):
    return (take_wishes(source),)


def _take_aim(source):
    return (goal_of(take_goal(source), source.names),)


TAKERS = {
    "ask": _take_nothing,
    "undo": _take_nothing,
    "blame": _take_nothing,
    "guess": _take_nothing,
    "strike": _take_number,
    "list": _take_number,
    "above": _take_above,
    "reach": _take_reach,
    "try": _take_try,
    "put": _take_put,
    "aim": _take_aim,
}


def read_script(text):
    """The task of a script and the tuple of its commands."""
    if not isinstance(text, str):
        raise InvalidText(-1, -1)
    lines = text.split("\n")
    first = _first_command(lines)
    task = read_task("\n".join(lines[:first]))
    names = names_of(task)
    commands = []
    for number in range(first, len(lines)):
        if marks_of(lines[number]):
            commands.append(_command_at(names, lines[number], number))
    return (task, tuple(commands))


def _first_command(lines):
    """The number of the first line that begins a command, the number of lines if there is none."""
    for number, line in enumerate(lines):
        if line.lstrip(" ").startswith(":"):
            return number
    return len(lines)


def _command_at(names, line, number):
    try:
        command = read_command(names, line)
    except InvalidText:
        raise InvalidText(number, 0)
    return command
