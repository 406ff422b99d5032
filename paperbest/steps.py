"""Steps over tableaus: mending a place, and moving a column until something stops it."""

from paperbest.numbers import added, is_less, parted, taken, timed, weighed, whole


def place_beyond(tableau):
    """The first place of the basis beyond an end, with the side of this end, or None."""
    for place in tableau.basis:
        low, high = tableau.ends(place)
        value = tableau.value(place)
        if low is not None and is_less(value, low):
            return (place, 0)
        if high is not None and is_less(high, value):
            return (place, 1)
    return None


def can_move(tableau, column, sign):
    """Whether a column can be moved up (1) or down (-1) within its ends."""
    low, high = tableau.ends(column)
    if sign > 0:
        return high is None or is_less(tableau.value(column), high)
    return low is None or is_less(low, tableau.value(column))


def mending_sign(side, entry):
    """The way of a column with this entry that brings a place back from beyond a side."""
    return 1 if (entry[0] > 0) == (side == 0) else -1


def fitting_place(tableau, place, side):
    """The first column that can bring a place nearer to the end that it is beyond, or None."""
    row = tableau.row_at(place)
    for column in tableau.columns:
        if column in row and can_move(tableau, column, mending_sign(side, row[column])):
            return column
    return None


def holding_ends(tableau, place, side):
    """The ends that together keep a place, for which no column fits, beyond its own end."""
    held = [((place, side), whole(1))]
    row = tableau.row_at(place)
    for column in row:
        stop = 1 if mending_sign(side, row[column]) > 0 else 0
        held.append(((column, stop), (abs(row[column][0]), row[column][1])))
    return tuple(sorted(held))


def mend_place(tableau, place, side):
    """Exchange a place beyond an end for the fitting one, and return this, or None."""
    column = fitting_place(tableau, place, side)
    if column is not None:
        tableau.exchange(place, column)
    return column


def room_for(tableau, column, sign):
    """How far a column can be moved, and the first place that stops it there."""
    length, stop = None, None
    for place in sorted(tableau.basis + (column,)):
        rate = whole(sign) if place == column else timed(whole(sign), tableau.entry(place, column))
        room = _room_of(tableau, place, rate)
        if room is not None and (length is None or is_less(room, length)):
            length, stop = room, place
    return (length, stop)


def _room_of(tableau, place, rate):
    """How far until a place that moves at this rate reaches an end that it is not beyond, or None."""
    if rate[0] == 0:
        return None
    low, high = tableau.ends(place)
    value = tableau.value(place)
    if rate[0] > 0:
        if high is None or is_less(high, value):
            return None
        return parted(taken(high, value), rate)
    if low is None or is_less(value, low):
        return None
    return parted(taken(low, value), rate)


def step_along(tableau, column, sign):
    """Move a column as far as there is room, exchange it with what stops it, and return this room."""
    length, stop = room_for(tableau, column, sign)
    if length is None:
        return (None, None)
    tableau.move(column, added(tableau.value(column), timed(whole(sign), length)))
    if stop != column:
        tableau.exchange(stop, column)
    return (length, stop)


def slopes_of(tableau, coefficients):
    """A sum of the unknowns as a sum of the columns: pairs of each column and its fraction."""
    times = {column: [] for column in tableau.columns}
    entries = {column: [] for column in tableau.columns}
    for place, coefficient in enumerate(coefficients):
        if coefficient == 0:
            continue
        row = {place: whole(1)} if place in times else tableau.row_at(place)
        for column in row:
            times[column].append(coefficient)
            entries[column].append(row[column])
    return tuple([(column, weighed(times[column], entries[column])) for column in sorted(times)])
