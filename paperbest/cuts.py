"""Cuts: parts of numbers rounded up, halves of few sums, and the sums that a tableau tells."""

from itertools import combinations
from math import lcm

from paperbest.nodes import unwhole_places
from paperbest.numbers import added, floor_of, is_less, parted, taken, timed, weighed, whole
from paperbest.papers import cut_row
from paperbest.steps import slopes_of
from paperbest.sums import above_key, multipliers_of, row_behind
from paperbest.tasks import box_of, rows_of

HALF = (1, 2)


def fraction_parts(numbers):
    """The numbers less the greatest integers not above them, as multipliers, and a dict with these integers."""
    parts = {}
    integers = {}
    for key, number in numbers.items():
        down = floor_of(number)
        parts[key] = taken(number, whole(down))
        if down != 0:
            integers[key] = down
    return (multipliers_of(parts), integers)


def cut_of(task, cuts, numbers):
    """The multipliers that are the parts of numbers, with the row of their cut, or None."""
    multipliers, _ = fraction_parts(numbers)
    row = cut_row(task, cuts, multipliers)
    return None if row is None else (multipliers, row)


def depth_of(row, spot):
    """How much a row lacks at a spot, divided by the sizes of its coefficients together."""
    coefficients, _, bound = row
    lacking = taken(whole(bound), weighed(coefficients, spot))
    return parted(lacking, whole(sum([abs(item) for item in coefficients])))


def deepest_first(pairs, spot):
    """Those of the pairs of multipliers and row that cut a spot off, each row once, the deepest first."""
    told = {}
    for multipliers, row in pairs:
        if row not in told and depth_of(row, spot)[0] > 0:
            told[row] = multipliers
    rows = list(told)
    depths = [depth_of(row, spot) for row in rows]
    common = 1
    for _, bottom in depths:
        common = lcm(common, bottom)
    sizes = [top * (common // bottom) for top, bottom in depths]
    order = sorted(range(len(rows)), key=lambda at: -sizes[at])
    return tuple([(told[rows[at]], rows[at]) for at in order])


def half_cut(task, cuts, spot, some):
    """Some deepest cut of halves of some sums and cuts, made whole by ends, or None."""
    box = box_of(task)
    totals = [0] * len(box)
    bound = 0
    above = whole(0)
    for key in some:
        coefficients, _, end = row_behind(task, cuts, key)
        totals = [one + other for one, other in zip(totals, coefficients)]
        bound += end
        above = added(above, above_key(task, cuts, box, spot, key))
    # For an even and an odd bound the ends that the spot is least above, by how much, with all before.
    ways = {bound & 1: (above, ())}
    for at, times in enumerate(totals):
        if times & 1:
            ways = _with_an_end(ways, at, box[at], spot[at])
    if 1 not in ways or not is_less(ways[1][0], whole(1)):
        return None
    multipliers = multipliers_of({key: HALF for key in tuple(some) + ways[1][1]})
    return (multipliers, cut_row(task, cuts, multipliers))


def _with_an_end(ways, at, pair, value):
    """The ways with one of the ends of an unknown."""
    after = {}
    for odd in ways:
        above, keys = ways[odd]
        gaps = (taken(value, whole(pair[0])), taken(whole(pair[1]), value))
        for word, end, gap in zip(("low", "high"), pair, gaps):
            both = (odd + end) & 1
            total = added(above, gap)
            if both not in after or is_less(total, after[both][0]):
                after[both] = (total, keys + ((word, at),))
    return after


def half_cuts(task, cuts, spot):
    """The half cuts of all lots of one or two sums and cuts."""
    box = box_of(task)
    keys = [("cut", c) for c in range(len(cuts))] + [("row", k) for k, _ in rows_of(task)]
    # A sum that the spot is above by 1 or more makes no cut, with no other one.
    near = [key for key in keys if is_less(above_key(task, cuts, box, spot, key), whole(1))]
    lots = [(key,) for key in near]
    for pair in combinations(list(near), 2):
        lots.append(pair)
    found = [half_cut(task, cuts, spot, lot) for lot in lots]
    return deepest_first([pair for pair in found if pair is not None], spot)


def form_numbers(task, cuts, tableau, form):
    """Numbers that give a sum of the unknowns: its slopes at the keys of the columns."""
    numbers = {}
    for column, slope in slopes_of(tableau, form):
        if slope[0] == 0:
            continue
        if column >= tableau.many:
            numbers[sum_key(task, column - tableau.many)] = slope
            continue
        _, low, high = task.unknowns[column]
        if is_less(taken(whole(high), tableau.value(column)), taken(tableau.value(column), whole(low))):
            numbers[("high", column)] = (-slope[0], slope[1])
        else:
            numbers[("low", column)] = slope
    return numbers


def sum_key(task, at):
    """The key of the row of a tableau with this number: of a sum of the task, or of a cut behind them."""
    numbers = [k for k, _ in rows_of(task)]
    return ("row", numbers[at]) if at < len(numbers) else ("cut", at - len(numbers))


def rounded_sums(task, cuts, tableau):
    """The cuts that the unknowns that are no integers, and the goal if it is none, make of a tableau."""
    spot = tableau.point()
    forms = [tuple([1 if place == at else 0 for place in range(len(spot))]) for at in unwhole_places(spot)]
    if weighed(task.goal, spot)[1] != 1:
        forms.append(task.goal)
    found = []
    for form in forms:
        numbers = form_numbers(task, cuts, tableau, form)
        opposite = {key: timed(whole(-1), number) for key, number in numbers.items()}
        found.append(cut_of(task, cuts, numbers))
        found.append(cut_of(task, cuts, opposite))
    return deepest_first([pair for pair in found if pair is not None], spot)
