"""Guesses: points that keep a task, made of fractions."""

from paperbest.near import best_near
from paperbest.nodes import whole_point
from paperbest.points import in_box, keeps, worth
from paperbest.rounding import best_threshold, nearest_point, rounded_by_signs


def guess(task, box, start, *, reach=0):
    """Some point in the box that keeps the task, told by fractions within the box, or None."""
    near = nearest_point(start)
    points = [whole_point(start), best_threshold(task, start), rounded_by_signs(task, start), near]
    if reach > 0:
        points.append(best_near(task, box, near, most=reach))
    best = None
    for point in points:
        if point is None or not in_box(point, box) or not keeps(task, point):
            continue
        if best is None or worth(task.goal, point) < worth(task.goal, best):
            best = point
    return best
