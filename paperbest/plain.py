"""The plain meaning of tasks: going through all points."""

from paperbest.errors import Refused
from paperbest.nodes import point_count
from paperbest.points import keeps, worth
from paperbest.tasks import box_of

MOST_POINTS = 5000


def count_points(box):
    """The number of points of a box."""
    return point_count(box)


def points_in(box):
    """The lot of the points of a box."""
    if count_points(box) > MOST_POINTS:
        raise Refused("size")
    points = [()]
    for low, high in box:
        points = [point + (value,) for point in points for value in range(low, high + 1)]
    return tuple(points)


def plain_points(task):
    """The lot of the points that keep a task."""
    return tuple([point for point in points_in(box_of(task)) if keeps(task, point)])


def plain_best(task):
    """Some best point with its worth, if a point keeps the task."""
    best = None
    for point in plain_points(task):
        now = worth(task.goal, point)
        if best is None or now < best[2]:
            best = ("best", point, now)
    return ("none",) if best is None else best
