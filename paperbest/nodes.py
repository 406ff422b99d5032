"""Boxes as nodes of a search: how many points they have, and where to split them."""

from paperbest.errors import Refused
from paperbest.leaves import leaf_holds, with_pair
from paperbest.numbers import ceiling_of, floor_of
from paperbest.points import keeps_wish
from paperbest.tasks import box_of
from paperbest.wishes import named_by


def point_count(box):
    """The number of points of a box."""
    count = 1
    for low, high in box:
        count = count * (high - low + 1)
    return count


def most_nodes(task):
    """A number that the nodes of a search stay within."""
    return 2 * point_count(box_of(task)) - 1


def most_depth(task, halving):
    """A number that the splits above a node stay within, if they halve from some depth on."""
    return halving + sum([(high - low).bit_length() for low, high in box_of(task)])


def unwhole_places(point):
    """The lot of the places of the fractions that are no integers."""
    return tuple([at for at, value in enumerate(point) if value[1] != 1])


def whole_point(point):
    """The fractions as integers, None if one is no integer."""
    if unwhole_places(point):
        return None
    return tuple([value[0] for value in point])


def first_broken(task, point):
    """The number of the first wish that a point breaks, or None."""
    for k, wish in enumerate(task.wishes):
        if not keeps_wish(wish, point):
            return k
    return None


def settled_wish(task, box):
    """The number of the first wish that is broken by the one value that each of its unknowns has, or None."""
    for k in range(len(task.wishes)):
        if leaf_holds(task, (), box, ("broken", k), None):
            return k
    return None


def boxes_around(box, point):
    """Boxes that together have each point of a box but one."""
    boxes = []
    left = box
    for at, value in enumerate(point):
        low, high = box[at]
        if low < value:
            boxes.append(with_pair(left, at, (low, value - 1)))
        if value < high:
            boxes.append(with_pair(left, at, (value + 1, high)))
        left = with_pair(left, at, (value, value))
    return tuple(boxes)


def split_place(task, box, point):
    """The unknown and the value at which to split a box, told by a point of fractions."""
    unwhole = unwhole_places(point)
    if unwhole:
        at = min(unwhole, key=lambda place: _off_half(point[place]))
        return (at, floor_of(point[at]))
    whole_values = whole_point(point)
    number = first_broken(task, whole_values)
    if number is None:
        raise Refused("kept")
    best = None
    for at in named_by(task.wishes[number]):
        width = box[at][1] - box[at][0]
        rank = (-abs(task.goal[at]), width)
        if width > 0 and (best is None or rank < best[0]):
            best = (rank, at)
    if best is None:
        raise Refused("settled")
    at = best[1]
    value = whole_values[at]
    return (at, value if value < box[at][1] else value - 1)


def _off_half(value):
    """How far a fraction is from the middle between two integers, as a number that can be compared."""
    top, bottom = value
    return abs(2 * (top - bottom * floor_of(value)) - bottom) * 1000000 // bottom


def halving_place(box):
    """The first of the widest unknowns, and its middle."""
    widths = [high - low for low, high in box]
    if max(widths) == 0:
        raise Refused("settled")
    at = widths.index(max(widths))
    return (at, box[at][0] + (widths[at] - 1) // 2)


def reaches(bound, known):
    """Whether a fraction, rounded up, is at least an integer."""
    return ceiling_of(bound) >= known
