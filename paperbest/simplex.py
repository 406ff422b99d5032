"""Points and sums, best points and repairs, by steps over a tableau."""

from math import comb

from paperbest.errors import Refused
from paperbest.numbers import is_less, parted
from paperbest.steps import can_move, holding_ends, mend_place, mending_sign, place_beyond, slopes_of, step_along
from paperbest.sums import multipliers_of


def keyed(tableau, ends):
    """The multipliers of pairs ((place, side), fraction)."""
    table = {}
    for (place, side), times in ends:
        if place < tableau.many:
            table[("low" if side == 0 else "high", place)] = times
        else:
            sign = 1 if side == 0 else -1
            table[("row", place - tableau.many)] = (sign * times[0], times[1])
    return multipliers_of(table)


def point_or_sum(tableau):
    """Mend places until all are within their ends, or a sum shows that they cannot be."""
    beyond = place_beyond(tableau)
    while beyond is not None:
        place, side = beyond
        if mend_place(tableau, place, side) is None:
            return ("sum", keyed(tableau, holding_ends(tableau, place, side)))
        beyond = place_beyond(tableau)
    return ("point",)


def first_gain(tableau, goal):
    """The first column that can be moved so that the goal falls, with the sign of this, or None."""
    for column, slope in slopes_of(tableau, goal):
        if slope[0] != 0:
            sign = -1 if slope[0] > 0 else 1
            if can_move(tableau, column, sign):
                return (column, sign)
    return None


def to_best(tableau, goal):
    """Take steps until there is no gain; the multipliers give the goal and its worth."""
    if place_beyond(tableau) is not None:
        raise Refused("beyond")
    gain = first_gain(tableau, goal)
    while gain is not None:
        length, _ = step_along(tableau, gain[0], gain[1])
        if length is None:
            raise Refused("endless")
        gain = first_gain(tableau, goal)
    return _worth_sum(tableau, goal)


def _worth_sum(tableau, goal):
    """The multipliers of the ends at which the columns stop the goal."""
    ends = []
    for column, slope in slopes_of(tableau, goal):
        ends.append(((column, 0 if slope[0] > 0 else 1), (abs(slope[0]), slope[1])))
    return keyed(tableau, ends)


def most_steps(tableau):
    """A number that the steps to a best point stay below."""
    most = comb(tableau.places, tableau.many)
    for _ in range(tableau.many):
        most = most * 3
    return most


def cheapest_place(tableau, goal, place, side):
    """The column that brings a place nearer to its end at the least loss, or None."""
    row = tableau.row_at(place)
    best, least = None, None
    for column, slope in slopes_of(tableau, goal):
        if column not in row or not can_move(tableau, column, mending_sign(side, row[column])):
            continue
        loss = parted((abs(slope[0]), slope[1]), (abs(row[column][0]), row[column][1]))
        if best is None or is_less(loss, least):
            best, least = column, loss
    return best


def repaired(tableau, goal):
    """From a place without a gain, mend places until all are within their ends, still without a gain."""
    if first_gain(tableau, goal) is not None:
        raise Refused("gain")
    beyond = place_beyond(tableau)
    while beyond is not None:
        place, side = beyond
        column = cheapest_place(tableau, goal, place, side)
        if column is None:
            return ("sum", keyed(tableau, holding_ends(tableau, place, side)))
        tableau.exchange(place, column)
        beyond = place_beyond(tableau)
    return ("best", _worth_sum(tableau, goal))


def hold_best(tableau, goal):
    """Put ends so that only the best points are left."""
    if place_beyond(tableau) is not None:
        raise Refused("beyond")
    if first_gain(tableau, goal) is not None:
        raise Refused("gain")
    for column, slope in slopes_of(tableau, goal):
        if slope[0] != 0:
            value = tableau.value(column)
            tableau.put_end(column, 0, value)
            tableau.put_end(column, 1, value)
