"""Reading texts of tasks, lines of wishes and texts of points."""

from math import lcm

from paperbest.lines import ALONE, NO, take_goal, take_range, take_wish_line
from paperbest.numbers import taken
from paperbest.source import Source, fresh_name, take_name, take_newlines, take_value
from paperbest.tasks import Task, names_of


def read_task(text):
    """The task of a text."""
    goal, lines, ranges = _take_task(Source(text, None, False))
    names = sorted(ranges)
    unknowns = tuple([(name,) + ranges[name] for name in names])
    wishes = [wish for line in lines for wish in wishes_of(line, names)]
    return Task(unknowns, tuple(wishes), goal_of(goal, names))


def completed(text):
    """Some text of a task that begins with a text."""
    source = Source(text, None, True)
    _take_task(source)
    added = "".join([" " + mark for mark in source.completion()])
    return text + added.replace(" \n ", "\n")


def _take_task(source):
    """Take the text of a task: its goal, the lines of its wishes, and its ranges."""
    take_newlines(source)
    goal = take_goal(source)
    lines = []
    ranges = {}
    while source.now() != "" or not ranges or _first_missing(source, ranges) is not None:
        source.expect("\n")
        take_newlines(source)
        if source.lacks():
            name = _first_missing(source, ranges)
            source.offer("unknown", fresh_name(ranges) if name is None else name)
        if source.now() == "unknown":
            take_range(source, ranges)
        elif source.now() != "":
            lines.append(take_wish_line(source))
    return (goal, lines, ranges)


def _first_missing(source, ranges):
    """The first name that has occurred and has no range, or None."""
    for name in source.found:
        if name not in ranges:
            return name
    return None


def goal_of(goal, names):
    """The goal for names of which a dict has some with an integer."""
    return tuple([goal.get(name, 0) for name in names])


def wishes_of(line, names):
    """The wishes of a line for the ascending names of a task."""
    places = {name: at for at, name in enumerate(names)}
    if line[0] == "relations":
        return tuple([_sum_of(relation, names) for relation in line[1]])
    if line[0] == "either":
        conditions = [_opposite(_sum_of(relation, names)) for relation in line[1]]
        return (("either", tuple(conditions + [_sum_of(relation, names) for relation in line[2]])),)
    if line[0] == "table":
        return (("table", tuple([places[name] for name in line[1]]), tuple(sorted(set(line[2])))),)
    if line[0] in ("unlike", "round"):
        return ((line[0], tuple(sorted([places[name] for name in line[1]]))),)
    jobs = [(places[name],) + items for name, items in line[1].items()]
    return ((line[0], tuple(sorted(jobs))) + line[2:],)


def _sum_of(relation, names):
    """The sum of a relation, multiplied so that it has integers."""
    left, sense, right = relation
    coefficients = [taken(left.get(name, NO), right.get(name, NO)) for name in names]
    bound = taken(right.get(ALONE, NO), left.get(ALONE, NO))
    factor = bound[1]
    for item in coefficients:
        factor = lcm(factor, item[1])
    if sense == "<=":
        factor = -factor
    integers = tuple([item[0] * factor // item[1] for item in coefficients])
    return ("sum", integers, sense == "=", bound[0] * factor // bound[1])


def _opposite(item):
    """The sum that is kept exactly if another one is not."""
    _, coefficients, _, bound = item
    return ("sum", tuple([-times for times in coefficients]), False, 1 - bound)


def read_wishes(names, text):
    """The wishes of a line of wishes for the names of a task."""
    return take_wishes(Source(text, names, False))


def take_wishes(source):
    """Take the line of wishes that a text ends with."""
    line = take_wish_line(source)
    if source.now() != "":
        source.fail()
    return wishes_of(line, source.names)


def read_point(task, text):
    """The point of a text."""
    names = names_of(task)
    source = Source(text, names, False)
    values = {}
    take_newlines(source)
    while len(values) < len(names) or source.now() != "":
        name = take_name(source, values)
        source.expect("=")
        values[name] = take_value(source)
        if source.now() != "":
            source.expect("\n")
            take_newlines(source)
    return tuple([values[name] for name in names])
