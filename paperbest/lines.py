"""The lines of texts of tasks, as the text tells them: relations are tuples (left, sense, right).

A side is a dict from names, and "" for what stands alone, to fractions.
"""

from paperbest.numbers import added, timed, whole
from paperbest.source import SIGNS, is_numeral, take_fraction, take_name, take_value, take_whole

MOST_RELATIONS = 6
ALONE = ""
NO = (0, 1)


def take_goal(source):
    """Take the line of a goal: a dict from names to integers."""
    sign = 1 if source.take_of(("least", "greatest")) == "least" else -1
    goal = {}
    source.offer("0")
    if source.now() == "0":
        source.step()
        if not source.knows(source.now()):
            return goal
        goal[take_name(source, ())] = 0
    else:
        _take_goal_term(source, goal, sign)
    while source.now() in SIGNS:
        _take_goal_term(source, goal, sign)
    return goal


def _take_goal_term(source, goal, sign):
    times = sign * _take_sign(source)
    if is_numeral(source.now()):
        times = times * take_whole(source, 0)
    name = take_name(source, ())
    goal[name] = goal.get(name, 0) + times


def _take_sign(source):
    """Take a sign, if there is one, and return 1 or -1."""
    if source.now() not in SIGNS:
        return 1
    return 1 if source.take_of(SIGNS) == "+" else -1


def take_range(source, ranges):
    """Take the line of an unknown that has no range yet."""
    source.expect("unknown")
    name = take_name(source, ranges)
    low = take_value(source)
    ranges[name] = (low, take_value(source, low))


def take_wish_line(source):
    """Take the line of a wish: a tuple of a word and what it tells."""
    word = source.now()
    if word in TAKERS and source.has_names(LEAST_NAMES[word]):
        source.step()
        taker = TAKERS[word]
        return taker(source, word)
    return _take_relations(source)


def _take_relations(source):
    left = _take_side(source, None)
    sense = source.take_of((">=", "<=", "="))
    right = _take_side(source, left)
    first = (left, sense, right)
    if source.now() == sense:
        source.step()
        return ("relations", [first, (right, sense, _take_side(source, right))])
    if sense != "=" and source.now() == "or":
        source.step()
        return ("either", [], [first] + _take_joined(source, "or", MOST_RELATIONS - 1))
    return ("relations", [first])


def _take_joined(source, word, most):
    """Take one or more relations that are not equal, at most so many, with a word between them."""
    relations = [_take_relation(source)]
    while source.now() == word and len(relations) < most:
        source.step()
        relations.append(_take_relation(source))
    return relations


def _take_relation(source):
    left = _take_side(source, None)
    sense = source.take_of((">=", "<="))
    return (left, sense, _take_side(source, left))


def _take_side(source, other):
    """Take a side, on which not each name may have the same coefficient as on the other one."""
    side = {}
    _take_term(source, side)
    while source.now() in SIGNS or (source.lacks() and _are_even(side, other)):
        source.offer("+")
        _take_term(source, side)
    if _are_even(side, other):
        source.fail()
    return side


def _take_term(source, side):
    times = whole(_take_sign(source))
    name = ALONE
    if is_numeral(source.now()):
        times = timed(times, take_fraction(source))
        if source.knows(source.now()):
            name = take_name(source, ())
    else:
        name = take_name(source, ())
    side[name] = added(side.get(name, NO), times)


def _are_even(side, other):
    """Whether each name has the same coefficient on both sides."""
    if other is None:
        return False
    for name in list(side) + list(other):
        if name != ALONE and side.get(name, NO) != other.get(name, NO):
            return False
    return True


def _take_condition(source, word):
    conditions = _take_joined(source, "and", MOST_RELATIONS - 1)
    source.expect("then")
    return ("either", conditions, _take_joined(source, "or", MOST_RELATIONS - len(conditions)))


def _take_names(source, word):
    names = [take_name(source, ())]
    while len(names) < LEAST_NAMES[word] or source.knows(source.now()):
        names.append(take_name(source, names))
    return (word, names)


def _take_table(source, word):
    _, names = _take_names(source, word)
    source.expect(":")
    lots = [_take_lot(source, len(names))]
    while source.now() == ",":
        source.step()
        lots.append(_take_lot(source, len(names)))
    return (word, names, lots)


def _take_lot(source, many):
    return tuple([take_value(source) for _ in range(many)])


def _take_bench(source, word):
    return (word, _take_jobs(source, None))


def _take_room(source, word):
    size = take_whole(source, 1)
    source.expect(":")
    return (word, _take_jobs(source, size), size)


def _take_jobs(source, size):
    """Take jobs: a name and a length, and a need too if there is a size."""
    jobs = {}
    while len(jobs) < LEAST_NAMES["bench"] or (source.now() == "," and source.has_names(len(jobs) + 1)):
        if jobs:
            source.expect(",")
        name = take_name(source, jobs)
        items = (take_whole(source, 1),)
        if size is not None:
            items = items + (take_whole(source, 1, size),)
        jobs[name] = items
    return jobs


LEAST_NAMES = {"if": 1, "unlike": 2, "round": 2, "table": 1, "bench": 2, "room": 2}
TAKERS = {
    "if": _take_condition,
    "unlike": _take_names,
    "round": _take_names,
    "table": _take_table,
    "bench": _take_bench,
    "room": _take_room,
}
