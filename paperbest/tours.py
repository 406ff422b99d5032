"""Rounds of few unknowns: how many there are in a box, some of them, or a tree that there is none."""

from paperbest.counting import count_kept
from paperbest.crowds import checked_wish
from paperbest.errors import Refused
from paperbest.leaves import box_after, tree_after, with_pair
from paperbest.papers import split_box
from paperbest.rings import round_draws, round_leaf

MOST_PLACES = 10


def _places_of(task, number):
    """The unknowns of a round that is not too long."""
    places = checked_wish(task, number, ("round",))[1]
    if len(places) > MOST_PLACES:
        raise Refused("size")
    return places


def round_count(task, number, box):
    """How many values of the round's unknowns, between their ends, keep the round."""
    places = _places_of(task, number)
    return count_kept(("round", tuple(range(len(places)))), tuple([box[place] for place in places]))


def round_answer(task, number, box):
    """Some point of the box that keeps the round; or a tree of crowds and rings that there is none."""
    places = _places_of(task, number)
    indices = _some_round([box[place] for place in places])
    if indices is None:
        return ("tree", _shut_tree(task, number, box))
    values = [low for low, _ in box]
    for place, index in zip(places, indices):
        values[place] = index
    return ("point", tuple(values))


def _some_round(pairs):
    """Indices between the ends that keep a round, or None."""
    many = len(pairs)
    sources = [0] * many
    for index, (low, high) in enumerate(pairs):
        for target in range(max(low, 0), min(high, many - 1) + 1):
            sources[target] |= 1 << index
    # For each set of indices that has the first one, as bits: where ways from this one through all of it may end.
    last = [0] * (1 << many)
    last[1] = 1
    for seen in range(3, 1 << many, 2):
        for index in range(1, many):
            if seen & (1 << index) and last[seen ^ (1 << index)] & sources[index]:
                last[seen] |= 1 << index
    return _way_back(last, sources)


def _way_back(last, sources):
    """The round that ends with a step to the first index, found from its end on; or None."""
    many = len(sources)
    leads = [0] * many
    seen, target = len(last) - 1, 0
    while True:
        ready = last[seen] & sources[target]
        if ready == 0:
            return None
        index = ready.bit_length() - 1
        leads[index] = target
        if index == 0:
            return leads
        seen, target = seen ^ (1 << index), index


def _shut_tree(task, number, box):
    """The tree of a box in which no point keeps the round; each of its leaves has indices of its own."""
    told = round_draws(task, number, box)
    if told and told[0] == "leaf":
        return told[1]
    inner = box
    for draw in told:
        inner = box_after(inner, draw)
    leaf = round_leaf(task, number, inner)
    if leaf is not None:
        return tree_after(told, leaf)
    at, k = _split_of(task.wishes[number][1], inner)
    below, above = split_box(inner, at, k)
    lower = _shut_tree(task, number, below)
    return tree_after(told, ("split", at, k, lower, _shut_tree(task, number, above)))


def _split_of(places, box):
    """The unknown with the fewest values, but more than one, and its middle."""
    at = min([place for place in places if box[place][0] < box[place][1]],
             key=lambda place: (box[place][1] - box[place][0], place))
    low, high = box[at]
    return (at, (low + high) // 2)


def round_shaves(task, number, box):
    """Draws with trees to the least box of all points that keep the round; or a tree that there are none."""
    places = _places_of(task, number)
    found = _some_round([box[place] for place in places])
    if found is None:
        return ("tree", _shut_tree(task, number, box))
    draws = []
    for at, place in enumerate(places):
        for side in (0, 1):
            end = _far_value([box[other] for other in places], at, side, found[at])
            if end != box[place][side]:
                out = (box[place][0], end - 1) if side == 0 else (end + 1, box[place][1])
                draw = (place, side, end, _shut_tree(task, number, with_pair(box, place, out)))
                draws.append(draw)
                box = box_after(box, draw)
    return tuple(draws)


def _far_value(pairs, at, side, value):
    """The least (0) or greatest (1) value of an unknown in a round, told one of its values."""
    while True:
        low, high = pairs[at]
        beyond = (low, value - 1) if side == 0 else (value + 1, high)
        if beyond[0] > beyond[1]:
            return value
        found = _some_round(pairs[:at] + [beyond] + pairs[at + 1:])
        if found is None:
            return value
        value = found[at]
