"""Moves between points of a box, and descents by moves to better points."""

from paperbest.lacks import best_value, lack
from paperbest.points import in_box, worth
from paperbest.wishes import named_by


def pair_moves(box, point):
    """The lot of the points that the moves of two unknowns lead to."""
    found = {}
    for later in range(len(point)):
        for at in range(later):
            for values in _pair_values(point[at], point[later]):
                other = with_two(point, at, later, values)
                if other != point and in_box(other, box):
                    found[other] = True
    return tuple(sorted(found))


def _pair_values(one, other):
    """The values that two unknowns can get together: those exchanged, and each moved by 1."""
    return [(other, one)] + [(one + up, other + down) for up in (-1, 1) for down in (-1, 1)]


def with_two(point, at, later, values):
    """The point with other values at two places, the first one ahead of the second."""
    return point[:at] + values[:1] + point[at + 1:later] + values[1:] + point[later + 1:]


def is_still(task, box, point):
    """Whether no move leads to a better point."""
    return _better_point(task, box, point, 0) is None


def descent(task, box, point, *, most=200):
    """The point, and better ones to which moves lead one after another."""
    found = [point]
    first = 0
    while len(found) <= most:
        better = _better_point(task, box, found[-1], first)
        if better is None:
            break
        found.append(better[0])
        # Those behind the unknown that moved have waited longest.
        first = better[1] + 1
    return tuple(found)


def _better_point(task, box, point, first):
    """Some better point to which a move leads, and an unknown that moved, from the first one on; or None."""
    lacks = [lack(wish, point) for wish in task.wishes]
    naming = [[] for _ in point]
    for k, wish in enumerate(task.wishes):
        for place in named_by(wish):
            naming[place].append(k)
    for step in range(len(point)):
        at = (first + step) % len(point)
        other = point[:at] + (best_value(task, box, point, at),) + point[at + 1:]
        if _is_better(task, lacks, naming[at], point, other):
            return (other, at)
    return _first_pair(task, box, point, lacks, naming)


def _is_better(task, lacks, numbers, point, other):
    """Whether another point is better, told by the wishes whose lacks may differ."""
    most = sum([lacks[k] for k in numbers])
    now = 0
    for k in numbers:
        now += lack(task.wishes[k], other)
        # What is lacked already cannot become less by further wishes.
        if now > most:
            return False
    return now < most or worth(task.goal, other) < worth(task.goal, point)


def _first_pair(task, box, point, lacks, naming):
    """The first better point to which a move of two unknowns leads, and one of them; or None."""
    for later in range(len(point)):
        for at in range(later):
            numbers = sorted(set(naming[at] + naming[later]))
            for values in _pair_values(point[at], point[later]):
                other = with_two(point, at, later, values)
                if other != point and _within(box, at, later, values):
                    if _is_better(task, lacks, numbers, point, other):
                        return (other, later)
    return None


def _within(box, at, later, values):
    return box[at][0] <= values[0] <= box[at][1] and box[later][0] <= values[1] <= box[later][1]
