"""Blame: wishes that cannot be kept together, excuses, and what wishes cost."""

from itertools import combinations

from paperbest.errors import Refused
from paperbest.numbers import is_number
from paperbest.papers import Best
from paperbest.points import broken
from paperbest.reasons import wishes_behind
from paperbest.solver import solve
from paperbest.tasks import with_goal, with_wishes

MOST_WISHES = 10


def is_lot_of_wishes(task, value):
    """Whether any value is a lot of numbers of wishes."""
    if not isinstance(value, tuple):
        return False
    if not all([is_number(item) and item < len(task.wishes) for item in value]):
        return False
    return all([one < other for one, other in zip(value, value[1:])])


def _check_lot(task, lot):
    if not is_lot_of_wishes(task, lot):
        raise Refused("lot")


def only_wishes(task, lot):
    """The task with the wishes of a lot alone."""
    _check_lot(task, lot)
    return with_wishes(task, tuple([task.wishes[k] for k in lot]))


def without_wishes(task, lot):
    """The task with all wishes but those of a lot."""
    _check_lot(task, lot)
    return with_wishes(task, tuple([wish for k, wish in enumerate(task.wishes) if k not in lot]))


def without_number(lot, number):
    """The lot without one of its numbers."""
    return tuple([item for item in lot if item != number])


def point_or_blame(task):
    """A point that keeps a task, and None; or None, and a lot of wishes to blame."""
    answer = solve(with_goal(task, (0,) * len(task.goal)))
    if isinstance(answer, Best):
        return (answer.point, None)
    return (None, _wishes_of(answer.paper))


def _wishes_of(paper):
    """The lot of the wishes that the tree and the cuts of a paper name."""
    numbers = list(wishes_behind(paper.tree))
    for multipliers in paper.cuts:
        numbers.extend([at for (word, at), _ in multipliers if word == "row"])
    return tuple(sorted(set(numbers)))


def has_point(task):
    """Whether some point keeps a task."""
    return point_or_blame(task)[1] is None


def is_to_blame(task, lot):
    """Whether no point keeps the task with the wishes of a lot alone."""
    return not has_point(only_wishes(task, lot))


def shrunk_blame(task, lot):
    """Some least lot to blame within a lot, None if this is not to blame."""
    left = _blame_within(task, lot)
    if left is None:
        return None
    kept = 0
    # Those ahead are needed; each other one is tried without.
    while kept < len(left):
        less = _blame_within(task, left[:kept] + left[kept + 1:])
        if less is None:
            kept += 1
        else:
            left = less
    return left


def _blame_within(task, lot):
    """Some lot to blame within a lot, None if this is not to blame."""
    _, numbers = point_or_blame(only_wishes(task, lot))
    return None if numbers is None else tuple([lot[number] for number in numbers])


def _check_few(task):
    if len(task.wishes) > MOST_WISHES:
        raise Refused("many")


def all_blames(task):
    """The lot of all least lots to blame."""
    _check_few(task)
    numbers = list(range(len(task.wishes)))
    blames = []
    breaks = []
    for many in range(1, len(numbers) + 1):
        # All smaller lots are known, so a lot to blame that holds none of those is a least one.
        for lot in combinations(list(numbers), many):
            if any([_is_part(blame, lot) for blame in blames]) or any([not _meets(lot, other) for other in breaks]):
                continue
            point, _ = point_or_blame(only_wishes(task, lot))
            if point is None:
                blames.append(lot)
            else:
                breaks.append(broken(task, point))
    return tuple(sorted(blames))


def _is_part(lot, other):
    """Whether each number of a lot is in another one."""
    return all([number in other for number in lot])


def _meets(lot, other):
    """Whether two lots have a number in common."""
    return any([number in other for number in lot])


def all_excuses(task):
    """The lot of all least excuses."""
    return least_meets(all_blames(task))


def least_meets(lots):
    """The lot of the least lots that have a number in common with each of some lots."""
    meets = [()]
    for lot in lots:
        wider = []
        for meet in meets:
            if _meets(meet, lot):
                wider.append(meet)
            else:
                wider.extend([tuple(sorted(meet + (number,))) for number in lot])
        meets = _least_ones(wider)
    return tuple(sorted(meets))


def _least_ones(lots):
    """Those of the lots that have no other one as a part."""
    least = []
    for _, lot in sorted(set([(len(lot), lot) for lot in lots])):
        if not any([_is_part(other, lot) for other in least]):
            least.append(lot)
    return least


def cheapest_excuse(task, costs):
    """The least cost of an excuse without fixed wishes, and some such excuse."""
    if not _are_costs(task, costs):
        raise Refused("costs")
    _check_few(task)
    fixed = tuple([k for k, cost in enumerate(costs) if cost is None])
    if is_to_blame(task, fixed):
        raise Refused("fixed")
    found = [lot for lot in all_excuses(task) if not _meets(lot, fixed)]
    return min([(sum([costs[number] for number in lot]), lot) for lot in found])


def _are_costs(task, value):
    """Whether any value is a tuple of a number or None for each wish."""
    if not isinstance(value, tuple) or len(value) != len(task.wishes):
        return False
    return all([item is None or is_number(item) for item in value])


def reliefs(task):
    """For each wish by how much the least worth falls without it."""
    answer = solve(task)
    if not isinstance(answer, Best):
        raise Refused("none")
    # The solver tells a right Best for each of them, as the point of this answer keeps it.
    return tuple([answer.worth - solve(without_wishes(task, (k,))).worth for k in range(len(task.wishes))])
