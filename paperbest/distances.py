"""Distances from a hint as sums: a task with further unknowns that are at least the differences."""

from paperbest.lexer import LETTERS
from paperbest.tasks import Task


class Distances:
    """The wider task, whose goal is the distance less a constant, with the ranges of its further unknowns.

    An unknown with the hint inside its pair gets a further one, which is at least the difference, both ways.
    The distance is at most a number.
    """

    def __init__(self, task, pairs, hint, most):
        inside = [at for at, (low, high) in enumerate(pairs) if low < hint[at] < high]
        size = len(pairs) + len(inside)
        goal = [1 if hint[at] <= low else -1 for at, (low, _) in enumerate(pairs)] + [1] * len(inside)
        wishes = [_widened(wish, len(inside)) for wish in task.wishes]
        ranges = []
        for further, at in enumerate(inside):
            low, high = pairs[at]
            goal[at] = 0
            ranges.append((0, max(hint[at] - low, high - hint[at])))
            for sign in (1, -1):
                wishes.append(("sum", _pair_of(size, at, sign, len(pairs) + further), False, sign * hint[at]))
        self.constant = -sum([times * value for times, value in zip(goal, hint)])
        self.ranges = tuple(ranges)
        wishes.append(("sum", tuple([-times for times in goal]), False, self.constant - most))
        unknowns = [(_name_at(at),) + pair for at, pair in enumerate(tuple(pairs) + self.ranges)]
        self.wide = Task(tuple(unknowns), tuple(wishes), tuple(goal))


def _pair_of(size, at, sign, further):
    """The coefficients of an unknown, with a sign, and its further one."""
    return tuple([1 if place == further else sign if place == at else 0 for place in range(size)])


def _name_at(at):
    """Names that ascend and are no words; only their order matters here."""
    return "x" + LETTERS[at // len(LETTERS)] + LETTERS[at % len(LETTERS)]


def _widened(wish, more):
    """The wish for so many more unknowns."""
    if wish[0] == "sum":
        return ("sum", wish[1] + (0,) * more) + wish[2:]
    if wish[0] == "either":
        return ("either", tuple([_widened(item, more) for item in wish[1]]))
    return wish
