"""Ends that rows tell, and the draws to them."""

from paperbest.leaves import box_after, top_of
from paperbest.numbers import whole
from paperbest.rows import opposite_row
from paperbest.sums import multipliers_of
from paperbest.wishes import sum_wish


def telling(row, box, at, side):
    """The end of an unknown that a row tells, an integer, or None."""
    told = _told_row(row, at, side)
    if told is None:
        return None
    coefficients, _, bound = told
    times = coefficients[at]
    others = coefficients[:at] + (0,) + coefficients[at + 1:]
    lacking = bound - _top(others, box)
    # Rounded up for the low end, down for the high one.
    return -(-lacking // times) if times > 0 else lacking // times


def _told_row(row, at, side):
    """The side of a row that tells this end, or None."""
    times = row[0][at]
    if times == 0:
        return None
    if (times > 0) == (side == 0):
        return row
    return opposite_row(row) if row[1] else None


def _top(coefficients, box):
    """The greatest total of coefficients over a box."""
    return top_of(sum_wish((coefficients, False, 0)), box)


def sum_draws(task, k, box):
    """A leaf if no point of the box keeps a sum, otherwise draws to the ends that it tells."""
    return row_draws(("row", k), task.wishes[k][1:], box)


def row_draws(key, row, box):
    """The same for a row with a key."""
    leaves = {1: _none_leaf(key, row, 1)}
    if row[1]:
        leaves[-1] = _none_leaf(key, opposite_row(row), -1)
    return _drawn_by(row, leaves, box)


def _none_leaf(key, row, sign):
    """The leaf of a row, or of its opposite, with the ends at which its sum is greatest."""
    table = {key: whole(sign)}
    for at, times in enumerate(row[0]):
        table[("high" if times > 0 else "low", at)] = whole(abs(times))
    return ("none", multipliers_of(table))


def goal_draws(task, worth, box):
    """The same for the row that the goal is below a worth."""
    table = {}
    for at, times in enumerate(task.goal):
        table[("low" if times > 0 else "high", at)] = whole(abs(times))
    row = (tuple([-times for times in task.goal]), False, 1 - worth)
    return _drawn_by(row, {1: ("worth", multipliers_of(table))}, box)


def _drawn_by(row, leaves, box):
    """What a row tells: a leaf or draws; the leaves are those of the row (1) and of its opposite (-1)."""
    for sign in leaves:
        coefficients, _, bound = row if sign == 1 else opposite_row(row)
        if _top(coefficients, box) < bound:
            return ("leaf", leaves[sign])
    draws = []
    for at, times in enumerate(row[0]):
        for side in (0, 1):
            end = telling(row, box, at, side)
            if end is None or not _is_sharper(box[at], side, end):
                continue
            draw = (at, side, end, leaves[1 if (times > 0) == (side == 0) else -1])
            draws.append(draw)
            box = box_after(box, draw)
    return tuple(draws)


def _is_sharper(pair, side, end):
    """Whether an end lies within a pair and not just at this end of it."""
    low, high = pair
    return low < end <= high if side == 0 else low <= end < high
