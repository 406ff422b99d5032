"""Eithers: which of their sums some points of a box keep, and the ends that follow."""

from paperbest.crowds import checked_wish
from paperbest.leaves import top_of


def _sums_of(task, number):
    return checked_wish(task, number, ("either",))[1]


def open_sums(task, number, box):
    """The lot of the indices of the sums that some point of the box keeps."""
    return tuple([at for at, item in enumerate(_sums_of(task, number)) if top_of(item, box) >= item[3]])


def either_left(task, number, box):
    """The either with its open sums, the sum itself if it is the only one, None if there is none."""
    sums = _sums_of(task, number)
    left = tuple([sums[at] for at in open_sums(task, number, box)])
    if len(left) > 1:
        return ("either", left)
    return left[0] if left else None


def either_point(task, number, box):
    """Some point of the box that keeps the either, or None."""
    left = open_sums(task, number, box)
    if not left:
        return None
    coefficients = _sums_of(task, number)[left[0]][1]
    return tuple([high if times > 0 else low for times, (low, high) in zip(coefficients, box)])


def sure_sum(task, number, box):
    """The index of the first sum that all points of the box keep, or None."""
    for at, (_, coefficients, _, bound) in enumerate(_sums_of(task, number)):
        opposite = ("sum", tuple([-times for times in coefficients]), False, -bound)
        if -top_of(opposite, box) >= bound:
            return at
    return None


def either_box(task, number, box):
    """The least box that has all points of the box that keep the either, or None."""
    sums = _sums_of(task, number)
    boxes = [_sum_box(sums[at], box) for at in open_sums(task, number, box)]
    if not boxes:
        return None
    pairs = []
    for at in range(len(box)):
        pairs.append((min([inner[at][0] for inner in boxes]), max([inner[at][1] for inner in boxes])))
    return tuple(pairs)


def _sum_box(item, box):
    """The least box that has all points of the box that keep an open sum."""
    spare = top_of(item, box) - item[3]
    pairs = []
    for times, (low, high) in zip(item[1], box):
        if times > 0:
            low = max(low, high - spare // times)
        elif times < 0:
            high = min(high, low + spare // -times)
        pairs.append((low, high))
    return tuple(pairs)


def either_draws(task, number, box):
    """Draws to the least box; or a leaf if no point keeps the either."""
    leaf = ("shut", number)
    least = either_box(task, number, box)
    if least is None:
        return ("leaf", leaf)
    draws = []
    for at, (pair, other) in enumerate(zip(box, least)):
        for side in (0, 1):
            if pair[side] != other[side]:
                draws.append((at, side, other[side], leaf))
    return tuple(draws)
