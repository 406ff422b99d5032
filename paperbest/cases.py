"""What it is for a wish to be broken: cases of wishes, of which a point that breaks it keeps one."""

from itertools import combinations

from paperbest.benches import jobs_of, size_of
from paperbest.errors import Refused
from paperbest.rows import opposite_row
from paperbest.tasks import box_of
from paperbest.wishes import sum_wish

MOST_ROOM_JOBS = 12
MOST_ROUND = 8
MOST_TABLE = 250


def opposite_cases(task, wish):
    """Cases of wishes: a point within the ranges breaks the wish exactly if it keeps all wishes of one case."""
    finder = CASE_FINDERS[wish[0]]
    return tuple(finder(task, wish))


def below(item):
    """The sum that is kept exactly if a sum is below its bound."""
    coefficients, _, bound = opposite_row(item[1:])
    return ("sum", coefficients, False, bound + 1)


def _sum_cases(task, wish):
    if not wish[2]:
        return [(below(wish),)]
    _, coefficients, _, bound = wish
    return [(("sum", coefficients, False, bound + 1),), (below(wish),)]


def _either_cases(task, wish):
    return [tuple([below(item) for item in wish[1]])]


def _unlike_cases(task, wish):
    size = len(task.unknowns)
    return [(sum_wish((_difference(size, one, other), True, 0)),) for one, other in combinations(list(wish[1]), 2)]


def _difference(size, one, other):
    """The coefficients of an unknown less another one."""
    return tuple([1 if at == one else -1 if at == other else 0 for at in range(size)])


def _unit(size, place, times):
    return tuple([times if at == place else 0 for at in range(size)])


def _jobs_cases(task, wish):
    """For the least lots of jobs that need too much together: each two of them overlap, and so all do at a moment."""
    jobs, most = jobs_of(wish), size_of(wish)
    if wish[0] == "room" and len(jobs) > MOST_ROOM_JOBS:
        raise Refused("size")
    # On a bench any two jobs are too much already.
    widest = len(jobs) if wish[0] == "room" else 2
    cases = []
    for many in range(2, widest + 1):
        for lot in combinations(list(jobs), many):
            needs = [job[2] for job in lot]
            if most < sum(needs) <= most + min(needs):
                cases.append(_overlaps(task, lot))
    return cases


def _overlaps(task, lot):
    """The sums that are kept exactly if each two of some jobs overlap."""
    size = len(task.unknowns)
    sums = []
    for one, other in combinations(list(lot), 2):
        sums.append(("sum", _difference(size, one[0], other[0]), False, 1 - one[1]))
        sums.append(("sum", _difference(size, other[0], one[0]), False, 1 - other[1]))
    return tuple(sums)


def _table_cases(task, wish):
    """Values that are those of some lots up to a place, and there lie between those of these lots."""
    _, places, lots = wish
    if len(places) * len(lots) > MOST_TABLE:
        raise Refused("size")
    cases = []
    for at, place in enumerate(places):
        following = {}
        for lot in lots:
            following.setdefault(lot[:at], []).append(lot[at])
        for start in following:
            before = [("sum", _unit(len(task.unknowns), places[k], 1), True, item) for k, item in enumerate(start)]
            for low, high in _gaps(following[start], box_of(task)[place]):
                cases.append(tuple(before + _between(len(task.unknowns), place, low, high)))
    return cases


def _gaps(values, pair):
    """The stretches of integers of a pair that have none of the values."""
    gaps = []
    low, high = pair
    for value in sorted(set(values)):
        if low <= min(value - 1, high):
            gaps.append((low, min(value - 1, high)))
        low = max(low, value + 1)
    if low <= high:
        gaps.append((low, high))
    return gaps


def _between(size, place, low, high):
    return [("sum", _unit(size, place, 1), False, low), ("sum", _unit(size, place, -1), False, -high)]


def _round_cases(task, wish):
    """A value is no index, or some unknowns, but not all, lead among themselves."""
    places = wish[1]
    if len(places) > MOST_ROUND:
        raise Refused("size")
    size = len(task.unknowns)
    cases = []
    for place in places:
        low, high = box_of(task)[place]
        if low < 0:
            cases.append((("sum", _unit(size, place, -1), False, 1),))
        if high >= len(places):
            cases.append((("sum", _unit(size, place, 1), False, len(places)),))
    for many in range(1, len(places)):
        for inner in combinations(list(range(len(places))), many):
            lots = tuple([(index,) for index in inner])
            cases.append(tuple([("table", (places[index],), lots) for index in inner]))
    return cases


CASE_FINDERS = {
    "sum": _sum_cases,
    "unlike": _unlike_cases,
    "table": _table_cases,
    "either": _either_cases,
    "bench": _jobs_cases,
    "room": _jobs_cases,
    "round": _round_cases,
}
