"""Values that unknowns lose by an unlike or a table."""

from paperbest.crowds import checked_wish, crowd_leaf, crowd_of, crowd_point, stretches_of
from paperbest.errors import Refused
from paperbest.leaves import leaf_holds, with_pair
from paperbest.numbers import is_number
from paperbest.tables import lots_left, table_point


def _wish_with(task, number, place):
    """The unlike or table with a number, if it names an unknown."""
    wish = checked_wish(task, number, ("unlike", "table"))
    if not is_number(place) or place not in wish[1]:
        raise Refused("place")
    return wish


def value_point(task, number, box, place, value):
    """Some point of the box that keeps the wish and gives the unknown this value, or None."""
    wish = _wish_with(task, number, place)
    low, high = box[place]
    if not low <= value <= high:
        return None
    alone = with_pair(box, place, (value, value))
    return crowd_point(task, number, alone) if wish[0] == "unlike" else table_point(task, number, alone)


def value_leaf(task, number, box, place, value):
    """Some leaf that shows that the unknown cannot have this value, or None."""
    wish = _wish_with(task, number, place)
    alone = with_pair(box, place, (value, value))
    if wish[0] == "unlike":
        return crowd_leaf(task, number, alone)
    leaf = ("out", number)
    return leaf if leaf_holds(task, (), alone, leaf, None) else None


def lost_values(task, number, box, place):
    """The stretches, as long as can be, of the values that the unknown takes at no point that keeps the wish."""
    wish = _wish_with(task, number, place)
    if wish[0] == "table":
        at = wish[1].index(place)
        return _gaps([wish[2][index][at] for index in lots_left(task, number, box)], box[place])
    others = [other for other in wish[1] if other != place]
    if crowd_of(number, others, box) is not None:
        return (box[place],)
    # The others take all values of the stretches that they make full, and can do without all others.
    return _joined(stretches_of(others, box), box[place])


def _gaps(items, pair):
    """The stretches of a pair between the items."""
    low, high = pair
    gaps = []
    for item in sorted(set(items)):
        if low < item:
            gaps.append((low, item - 1))
        low = item + 1
    if low <= high:
        gaps.append((low, high))
    return tuple(gaps)


def _joined(stretches, pair):
    """The parts of stretches within a pair; what overlaps or touches is one."""
    joined = []
    for first, last in sorted(stretches):
        first, last = max(first, pair[0]), min(last, pair[1])
        if first > last:
            continue
        if joined and first <= joined[-1][1] + 1:
            first, before = joined.pop()
            last = max(last, before)
        joined.append((first, last))
    return tuple(joined)
