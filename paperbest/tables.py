"""Tables: which of their lots lie in a box, and the ends that follow."""

from paperbest.crowds import checked_wish


def lots_left(task, number, box):
    """The lot of the indices of the lots of a table that lie in the box."""
    _, places, lots = checked_wish(task, number, ("table",))
    pairs = [box[place] for place in places]
    return tuple([at for at, lot in enumerate(lots) if _lies_in(lot, pairs)])


def _lies_in(lot, pairs):
    return all([low <= item <= high for item, (low, high) in zip(lot, pairs)])


def table_left(task, number, box):
    """The table with the lots that are left alone, or None."""
    _, places, lots = checked_wish(task, number, ("table",))
    left = tuple([lots[at] for at in lots_left(task, number, box)])
    return ("table", places, left) if left else None


def table_point(task, number, box):
    """Some point of the box that keeps the table, or None."""
    left = table_left(task, number, box)
    if left is None:
        return None
    values = [low for low, _ in box]
    for place, item in zip(left[1], left[2][0]):
        values[place] = item
    return tuple(values)


def table_box(task, number, box):
    """The least box that has all points of the box that keep the table, or None."""
    left = table_left(task, number, box)
    if left is None:
        return None
    pairs = list(box)
    for at, place in enumerate(left[1]):
        items = [lot[at] for lot in left[2]]
        pairs[place] = (min(items), max(items))
    return tuple(pairs)


def table_draws(task, number, box):
    """Draws to the least box; or a leaf if no lot is left."""
    least = table_box(task, number, box)
    leaf = ("out", number)
    if least is None:
        return ("leaf", leaf)
    draws = []
    for at, (pair, other) in enumerate(zip(box, least)):
        for side in (0, 1):
            if pair[side] != other[side]:
                draws.append((at, side, other[side], leaf))
    return tuple(draws)
