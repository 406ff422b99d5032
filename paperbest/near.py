"""Points near a hint: the nearest one that keeps a task, and the best one within a distance."""

from paperbest.lexer import LETTERS
from paperbest.papers import Best
from paperbest.tasks import Task
from paperbest.tree import search


def distance_between(one, other):
    """The sum of the differences of two points, without signs."""
    return sum([abs(value - far) for value, far in zip(one, other)])


def nearest_kept(task, box, hint, *, most):
    """Some point in the box that keeps the task and is nearest to a hint, with its distance, or None."""
    point = _best_with(task, box, hint, most, True)
    return None if point is None else (point, distance_between(point, hint))


def best_near(task, box, hint, *, most):
    """Some point with the least worth in the box that keeps the task and is near enough to a hint, or None."""
    return _best_with(task, box, hint, most, False)


def _best_with(task, box, hint, most, by_distance):
    pairs = [(max(low, at - most), min(high, at + most)) for (low, high), at in zip(box, hint)]
    if any([low > high for low, high in pairs]):
        return None
    wide, distances = _with_distances(task, pairs, hint, most)
    if by_distance:
        wide = Task(wide.unknowns, wide.wishes, distances)
    answer = search(wide)
    return answer.point[:len(hint)] if isinstance(answer, Best) else None


def _with_distances(task, pairs, hint, most):
    """The task with further unknowns, and the sum that is its distance from the hint but for a constant.

    An unknown with the hint inside its pair gets one more, which is at least the difference, both ways.
    """
    inside = [at for at, (low, high) in enumerate(pairs) if low < hint[at] < high]
    size = len(pairs) + len(inside)
    ranges = list(pairs)
    wishes = [_widened(wish, len(inside)) for wish in task.wishes]
    distances = [1 if hint[at] <= low else -1 for at, (low, _) in enumerate(pairs)] + [1] * len(inside)
    spare = most
    for at, (low, high) in enumerate(pairs):
        if low < hint[at] < high:
            further = len(ranges)
            ranges.append((0, max(hint[at] - low, high - hint[at])))
            distances[at] = 0
            for sign in (1, -1):
                row = tuple([1 if place == further else sign if place == at else 0 for place in range(size)])
                wishes.append(("sum", row, False, sign * hint[at]))
        else:
            spare += distances[at] * hint[at]
    wishes.append(("sum", tuple([-times for times in distances]), False, -spare))
    unknowns = tuple([(_name_at(at),) + pair for at, pair in enumerate(ranges)])
    return (Task(unknowns, tuple(wishes), task.goal + (0,) * len(inside)), tuple(distances))


def _name_at(at):
    """Names that ascend and are no words; only their order matters here."""
    return "x" + LETTERS[at // len(LETTERS)] + LETTERS[at % len(LETTERS)]


def _widened(wish, more):
    """The wish for so many more unknowns."""
    if wish[0] == "sum":
        return ("sum", wish[1] + (0,) * more) + wish[2:]
    if wish[0] == "either":
        return ("either", tuple([_widened(item, more) for item in wish[1]]))
    return wish
