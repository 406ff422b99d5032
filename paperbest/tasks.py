"""Tasks, their parts, and tasks with other unknowns."""

from paperbest.errors import InvalidNumber, InvalidTask, Refused
from paperbest.lexer import LETTERS
from paperbest.numbers import is_whole
from paperbest.rows import common_divisor
from paperbest.wishes import is_wish, named_by, normal_wishes

WORDS = ("and", "bench", "if", "least", "or", "room", "round", "table", "then", "unlike")
LONGEST_NAME = 6


class Task:
    """Unknowns with ranges, wishes and a goal."""

    def __init__(self, unknowns, wishes, goal):
        _check_unknowns(unknowns)
        _check_wishes(wishes, len(unknowns))
        _check_goal(goal, len(unknowns))
        self.unknowns = unknowns
        self.wishes = wishes
        self.goal = goal

    def __eq__(self, other):
        return (isinstance(other, Task) and self.unknowns == other.unknowns and self.wishes == other.wishes
                and self.goal == other.goal)


def is_name(value):
    """Whether any value is a name that an unknown may have."""
    if not isinstance(value, str) or not 1 <= len(value) <= LONGEST_NAME or value in WORDS:
        return False
    return all([sign in LETTERS for sign in value])


def is_pair(value):
    """Whether any value is a tuple of two integers, the first at most the second."""
    if not isinstance(value, tuple) or len(value) != 2:
        return False
    return is_whole(value[0]) and is_whole(value[1]) and value[0] <= value[1]


def _is_unknown(value):
    if not isinstance(value, tuple) or len(value) != 3:
        return False
    return is_name(value[0]) and is_pair(value[1:])


def _check_unknowns(value):
    if not isinstance(value, tuple) or not value:
        raise InvalidTask("unknowns", -1)
    for at, item in enumerate(value):
        if not _is_unknown(item) or (at > 0 and item[0] <= value[at - 1][0]):
            raise InvalidTask("unknowns", at)


def _check_wishes(value, size):
    if not isinstance(value, tuple):
        raise InvalidTask("wishes", -1)
    for at, item in enumerate(value):
        if not is_wish(item, size):
            raise InvalidTask("wishes", at)


def _check_goal(value, size):
    if not isinstance(value, tuple) or len(value) != size:
        raise InvalidTask("goal", -1)
    for at, item in enumerate(value):
        if not is_whole(item):
            raise InvalidTask("goal", at)


def names_of(task):
    """The names of the unknowns."""
    return tuple([name for name, _, _ in task.unknowns])


def box_of(task):
    """The box of the ranges."""
    return tuple([(low, high) for _, low, high in task.unknowns])


def rows_of(task):
    """A tuple of (k, row) for each sum, wish k."""
    return tuple([(k, wish[1:]) for k, wish in enumerate(task.wishes) if wish[0] == "sum"])


def place_of(task, name):
    """The number of the unknown with a name."""
    if is_name(name) and name in names_of(task):
        return names_of(task).index(name)
    raise Refused("name")


def goal_step(task):
    """The greatest number that divides the goal's integers; 0 if all are 0."""
    return common_divisor(task.goal)


def with_wishes(task, wishes):
    """The task with other wishes."""
    return Task(task.unknowns, wishes, task.goal)


def with_goal(task, goal):
    """The task with another goal."""
    return Task(task.unknowns, task.wishes, goal)


def with_box(task, box):
    """The task with other ranges."""
    names = names_of(task)
    if not isinstance(box, tuple) or len(box) != len(names):
        raise InvalidTask("unknowns", -1)
    unknowns = []
    for name, pair in zip(names, box):
        # What is no pair becomes no unknown, which the task refuses at its place.
        unknowns.append((name,) + pair if isinstance(pair, tuple) else None)
    return Task(tuple(unknowns), task.wishes, task.goal)


def normal_task(task):
    """The task with its normal wishes."""
    return with_wishes(task, normal_wishes(task.wishes))


def are_same(one, other):
    """Whether two tasks have equal unknowns, goals and normal wishes."""
    if one.unknowns != other.unknowns or one.goal != other.goal:
        return False
    return normal_wishes(one.wishes) == normal_wishes(other.wishes)


def renamed(task, names):
    """The task in which each unknown has the name that a dict tells, in the order of these."""
    new = []
    for name in names_of(task):
        if name not in names or not is_name(names[name]):
            raise Refused("names")
        new.append(names[name])
    if len(set(new)) < len(new):
        raise Refused("names")
    # An unknown of the new task is that with this number of the old one.
    sources = sorted(range(len(new)), key=lambda at: new[at])
    targets = {source: at for at, source in enumerate(sources)}
    for wish in task.wishes:
        if wish[0] == "round" and not _ascends([targets[place] for place in wish[1]]):
            raise Refused("round")
    unknowns = tuple([(new[source],) + task.unknowns[source][1:] for source in sources])
    wishes = tuple([_placed_wish(wish, sources, targets) for wish in task.wishes])
    return Task(unknowns, wishes, tuple([task.goal[source] for source in sources]))


def _ascends(places):
    return all([one < other for one, other in zip(places, places[1:])])


def _placed_wish(wish, sources, targets):
    """A wish for the same unknowns at their new places."""
    if wish[0] == "sum":
        return ("sum", tuple([wish[1][source] for source in sources])) + wish[2:]
    if wish[0] == "either":
        return ("either", tuple([_placed_wish(item, sources, targets) for item in wish[1]]))
    if wish[0] == "table":
        return ("table", tuple([targets[place] for place in wish[1]]), wish[2])
    if wish[0] in ("bench", "room"):
        jobs = [(targets[job[0]],) + job[1:] for job in wish[1]]
        return (wish[0], tuple(sorted(jobs))) + wish[2:]
    return (wish[0], tuple(sorted([targets[place] for place in wish[1]])))


def turned(task, name):
    """The task in which an unknown stands for its value times -1."""
    place = place_of(task, name)
    return _with_values(task, place, -1, 0)


def moved(task, name, amount):
    """The task in which an unknown stands for its value less an integer."""
    place = place_of(task, name)
    if not is_whole(amount):
        raise InvalidNumber("amount")
    return _with_values(task, place, 1, amount)


def _with_values(task, place, sign, amount):
    """The task in which an unknown stands for its value less the amount, times the sign."""
    for wish in task.wishes:
        if wish[0] not in ("sum", "either", "table") and place in named_by(wish):
            raise Refused("wish")
    name, low, high = task.unknowns[place]
    ends = tuple(sorted([sign * (low - amount), sign * (high - amount)]))
    unknowns = task.unknowns[:place] + ((name,) + ends,) + task.unknowns[place + 1:]
    wishes = tuple([_valued_wish(wish, place, sign, amount) for wish in task.wishes])
    goal = _signed_at(task.goal, place, sign)
    return Task(unknowns, wishes, goal)


def _signed_at(integers, place, sign):
    return integers[:place] + (sign * integers[place],) + integers[place + 1:]


def _valued_wish(wish, place, sign, amount):
    if wish[0] == "sum":
        _, coefficients, equal, bound = wish
        return ("sum", _signed_at(coefficients, place, sign), equal, bound - coefficients[place] * amount)
    if wish[0] == "either":
        return ("either", tuple([_valued_wish(item, place, sign, amount) for item in wish[1]]))
    if wish[0] == "table" and place in wish[1]:
        at = wish[1].index(place)
        lots = [lot[:at] + (sign * (lot[at] - amount),) + lot[at + 1:] for lot in wish[2]]
        return ("table", wish[1], tuple(sorted(lots)))
    return wish
