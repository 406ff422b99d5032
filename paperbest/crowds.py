"""Crowds of unlikes: more unknowns than integers, and what stretches that are just full tell."""

from paperbest.errors import Refused
from paperbest.numbers import is_number


def checked_wish(task, number, kinds):
    """The wish with a number, which may be any value, if it is of one of some kinds."""
    if not is_number(number) or number >= len(task.wishes) or task.wishes[number][0] not in kinds:
        raise Refused("wish")
    return task.wishes[number]


def crowd_of(number, places, box):
    """Some crowd of unknowns whose values are all unlike, or None."""
    ordered = _by_highs(places, box)
    for first in sorted(set([box[place][0] for place in places])):
        inner = []
        for place in ordered:
            low, high = box[place]
            if low < first:
                continue
            inner.append(place)
            # The first time that there is one too many, there is just one too many.
            if len(inner) > high - first + 1:
                return ("crowd", number, tuple(sorted(inner)), first, high)
    return None


def _by_highs(places, box):
    return sorted(places, key=lambda place: (box[place][1], place))


def crowd_leaf(task, number, box):
    """Some crowd of an unlike, or None."""
    return crowd_of(number, checked_wish(task, number, ("unlike",))[1], box)


def crowd_point(task, number, box):
    """Some point of the box that keeps an unlike, or None."""
    places = checked_wish(task, number, ("unlike",))[1]
    values = [low for low, _ in box]
    waiting = _by_highs(places, box)
    value = None
    while waiting:
        least = min([box[other][0] for other in waiting])
        value = least if value is None else max(value + 1, least)
        # Of those that may have this value, the one that can wait least long gets it.
        ready = [other for other in waiting if box[other][0] <= value]
        place = ready[0]
        if box[place][1] < value:
            return None
        values[place] = value
        waiting.remove(place)
    return tuple(values)


def full_stretches(task, number, box):
    """The lot of the stretches that have just as many unknowns of an unlike within as integers."""
    places = checked_wish(task, number, ("unlike",))[1]
    if crowd_of(number, places, box) is not None:
        raise Refused("shut")
    return stretches_of(places, box)


def stretches_of(places, box):
    """The lot of the stretches that some unknowns, which have no crowd, make full."""
    # Without a crowd, a full stretch goes from a low to a high end of unknowns within it.
    full = {}
    ordered = _by_highs(places, box)
    for first in sorted(set([box[place][0] for place in places])):
        many = 0
        for place in ordered:
            low, high = box[place]
            if low >= first:
                many += 1
                if many == high - first + 1:
                    full[(first, high)] = True
    return tuple(sorted(full))


def crowd_box(task, number, box):
    """The least box that has all points of the box that keep an unlike, or None."""
    places = checked_wish(task, number, ("unlike",))[1]
    if crowd_of(number, places, box) is not None:
        return None
    full = stretches_of(places, box)
    pairs = list(box)
    for place in places:
        below, above = _stretch_at(full, box[place], 0), _stretch_at(full, box[place], 1)
        low = box[place][0] if below is None else below[1] + 1
        pairs[place] = (low, box[place][1] if above is None else above[0] - 1)
    return tuple(pairs)


def _stretch_at(full, pair, side):
    """The widest stretch that other unknowns fill and that has the low (0) or high (1) end of a pair, or None."""
    widest = None
    for first, last in full:
        if first <= pair[0] and pair[1] <= last:
            continue
        if first <= pair[side] <= last and (widest is None or last - first > widest[1] - widest[0]):
            widest = (first, last)
    return widest


def crowd_draws(task, number, box):
    """Draws to the least box, each with a crowd; or a crowd."""
    places = checked_wish(task, number, ("unlike",))[1]
    crowd = crowd_of(number, places, box)
    if crowd is not None:
        return ("leaf", crowd)
    full = stretches_of(places, box)
    draws = []
    for place in places:
        for side in (0, 1):
            stretch = _stretch_at(full, box[place], side)
            if stretch is not None:
                end = stretch[1] + 1 if side == 0 else stretch[0] - 1
                draws.append((place, side, end, _crowd_with(number, places, box, place, stretch)))
    return tuple(draws)


def _crowd_with(number, places, box, place, stretch):
    """The crowd of an unknown with those that fill a stretch."""
    first, last = stretch
    inner = [other for other in places if box[other][0] >= first and box[other][1] <= last]
    return ("crowd", number, tuple(sorted(inner + [place])), first, last)
