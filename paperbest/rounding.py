"""Rounding fractions to points: by the signs of the rows, to the nearest integers, and at thresholds."""

from math import lcm

from paperbest.numbers import fraction_of, is_less
from paperbest.points import worth
from paperbest.tasks import rows_of
from paperbest.wishes import named_by


def free_ways(task):
    """For each unknown whether it may fall and whether it may rise without harm to a row."""
    falls = [True] * len(task.unknowns)
    rises = [True] * len(task.unknowns)
    for _, (coefficients, equal, _) in rows_of(task):
        for at, times in enumerate(coefficients):
            if times > 0 or (equal and times != 0):
                falls[at] = False
            if times < 0 or (equal and times != 0):
                rises[at] = False
    return tuple(zip(falls, rises))


def rounded_by_signs(task, start):
    """The point in which each fraction is rounded as its unknown may, None if one may not be."""
    point = []
    for (top, bottom), (falls, rises), times in zip(start, free_ways(task), task.goal):
        down = top // bottom
        if bottom == 1:
            point.append(down)
        elif not falls and not rises:
            return None
        else:
            point.append(down if falls and (times >= 0 or not rises) else down + 1)
    return tuple(point)


def nearest_point(start):
    """Each fraction rounded to the nearest integer, of two to the lower one."""
    return tuple([-((bottom - 2 * top) // (2 * bottom)) for top, bottom in start])


def turns_of(task):
    """Turns that show that a task is a difference task, or None."""
    linked = [[] for _ in task.unknowns]
    for wish in task.wishes:
        if wish[0] != "sum" or len(named_by(wish)) > 2:
            return None
        sizes = [wish[1][place] for place in named_by(wish)]
        if any([abs(times) != 1 for times in sizes]):
            return None
        if len(sizes) == 2:
            one, other = named_by(wish)
            # With the turns the coefficients must have unlike signs.
            linked[one].append((other, -sizes[0] * sizes[1]))
            linked[other].append((one, -sizes[0] * sizes[1]))
    return _turns_along(linked)


def _turns_along(linked):
    """Turns in which the product at each link is as told, or None."""
    turns = {}
    for start in range(len(linked)):
        if start in turns:
            continue
        turns[start] = 1
        waiting = [start]
        while waiting:
            at = waiting.pop()
            for other, product in linked[at]:
                if other not in turns:
                    turns[other] = turns[at] * product
                    waiting.append(other)
                elif turns[other] != turns[at] * product:
                    return None
    return tuple([turns[at] for at in range(len(linked))])


def rounded_at(start, turns, threshold):
    """The point of the fractions, times their turns, rounded up from a threshold on."""
    point = []
    for (top, bottom), turn in zip(start, turns):
        down = turn * top // bottom
        # An integer has no excess, and a threshold is above 0.
        excess = (turn * top - down * bottom, bottom)
        point.append(turn * (down if is_less(excess, threshold) else down + 1))
    return tuple(point)


def threshold_points(start, turns):
    """The pairs of threshold and point for all thresholds that tell points apart, ascending."""
    common = 1
    for _, bottom in start:
        common = lcm(common, bottom)
    sizes = [common]
    for (top, bottom), turn in zip(start, turns):
        excess = (turn * top) % bottom
        if excess != 0:
            sizes.append(excess * (common // bottom))
    pairs = []
    for size in sorted(set(sizes)):
        threshold = fraction_of(size, common)
        pairs.append((threshold, rounded_at(start, turns, threshold)))
    return tuple(pairs)


def best_threshold(task, start):
    """The first point at a threshold with the least worth, None if the task is no difference task."""
    turns = turns_of(task)
    if turns is None:
        return None
    best = None
    for _, point in threshold_points(start, turns):
        if best is None or worth(task.goal, point) < worth(task.goal, best):
            best = point
    return best
