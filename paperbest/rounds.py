"""Rounds of cuts behind spots of least worth, and answers by cuts alone."""

from paperbest.cuts import cut_of, rounded_sums, sum_key
from paperbest.duals import mended, solved, tableau_of, with_cuts
from paperbest.errors import Refused
from paperbest.nodes import point_count, whole_point
from paperbest.numbers import ceiling_of, weighed
from paperbest.papers import Best, Nothing, Paper
from paperbest.points import keeps, worth
from paperbest.prices import quickly_best
from paperbest.simplex import hold_best
from paperbest.steps import slopes_of
from paperbest.sums import multipliers_of
from paperbest.tasks import box_of

# More cuts at once make tableaus slow and are seldom of use.
MOST_AT_ONCE = 10


def rounds(task, *, most):
    """The cuts of some rounds, the worths of all spots, and an answer if one is found, or None."""
    tableau = tableau_of(task, (), box_of(task))
    found = solved(tableau, task.goal)
    cuts, rows, worths = (), (), ()
    made = 0
    while True:
        if found[0] == "sum":
            return (cuts, worths, Nothing(_last_paper(task, cuts, "none", found[1])))
        worths = worths + (weighed(task.goal, tableau.point()),)
        point = whole_point(tableau.point())
        new = rounded_sums(task, rows, tableau)[:min(len(task.unknowns), MOST_AT_ONCE)]
        if not new:
            point, new = _least_or_cut(task, rows, tableau, point)
        if point is not None and keeps(task, point):
            return (cuts, worths, Best(point, worth(task.goal, point), _last_paper(task, cuts, "worth", found[1])))
        if made >= most or not new:
            return (cuts, worths, None)
        made += 1
        for multipliers, row in new:
            cuts = cuts + (multipliers,)
            rows = rows + (row,)
            tableau.add_row(row)
        found = mended(tableau, task.goal)


def _last_paper(task, cuts, word, multipliers):
    """The paper of cuts and a leaf with multipliers of a tableau."""
    return Paper(cuts, (word, with_cuts(task, multipliers)))


def _least_or_cut(task, rows, tableau, point):
    """Behind a whole spot that breaks the task: the least spot if it is whole, and a cut if it is not."""
    if keeps(task, point):
        return (point, ())
    told = _told_by_stages(task, rows, tableau)
    tableau.back(0)
    if told[0] == "cut":
        return (None, (told[1:3],))
    return (told[1], ())


def _goal_at(task, stage):
    """The sum of a stage: the goal, then each unknown."""
    if stage == 0:
        return task.goal
    return tuple([1 if at == stage - 1 else 0 for at in range(len(task.unknowns))])


def _stage_numbers(task, tableau, stage):
    """Bring a tableau to the least value of a stage among the best of those before; the numbers that show it."""
    form = _goal_at(task, stage)
    if stage > 0:
        quickly_best(tableau, form)
    numbers = {}
    for column, slope in slopes_of(tableau, form):
        if slope[0] == 0:
            continue
        if column >= tableau.many:
            numbers[sum_key(task, column - tableau.many)] = slope
        elif _is_at_low(task.unknowns[column], tableau.value(column), slope):
            numbers[("low", column)] = slope
        else:
            numbers[("high", column)] = (-slope[0], slope[1])
    hold_best(tableau, form)
    return numbers


def _is_at_low(unknown, value, slope):
    """Whether the low end stops a column; of two equal ends it is the one with a number above 0."""
    _, low, high = unknown
    return value[0] == low * value[1] and (low < high or slope[0] > 0)


def least_spot(task, cuts):
    """The least spot with the numbers that show it at each stage; or multipliers that show that there is none."""
    tableau = tableau_of(task, cuts, box_of(task))
    found = solved(tableau, task.goal)
    if found[0] == "sum":
        return ("none", with_cuts(task, found[1]))
    sums = tuple([_stage_numbers(task, tableau, stage) for stage in range(len(task.unknowns) + 1)])
    return ("spot", tableau.point(), sums)


def next_cut(task, cuts):
    """The cut that the first stage that is no integer tells; or the whole least spot; or that there is none."""
    tableau = tableau_of(task, cuts, box_of(task))
    found = solved(tableau, task.goal)
    if found[0] == "sum":
        return ("none", with_cuts(task, found[1]))
    return _told_by_stages(task, cuts, tableau)


def _told_by_stages(task, rows, tableau):
    """The same for a tableau at a best point; it puts ends, which have to be taken back."""
    first = None
    key = ()
    for stage in range(len(task.unknowns) + 1):
        numbers = _stage_numbers(task, tableau, stage)
        first = numbers if stage == 0 else first
        value = weighed(_goal_at(task, stage), tableau.point())
        key = key + (ceiling_of(value),)
        if value[1] != 1:
            multipliers, row = cut_of(task, rows, numbers)
            return ("cut", multipliers, row, key + tuple([low for low, _ in box_of(task)[stage:]]))
    return ("whole", whole_point(tableau.point()), multipliers_of(first))


def most_cuts(task):
    """A number of cuts that is always enough."""
    box = box_of(task)
    return (1 + sum([abs(times) * (high - low) for times, (low, high) in zip(task.goal, box)])) * point_count(box)


def by_cuts(task, *, most=None):
    """The answer to a task of sums by cuts alone, None if so many are not enough."""
    if any([wish[0] != "sum" for wish in task.wishes]):
        raise Refused("sums")
    tableau = tableau_of(task, (), box_of(task))
    found = solved(tableau, task.goal)
    cuts, rows = (), ()
    while found[0] != "sum":
        told = _told_by_stages(task, rows, tableau)
        if told[0] == "whole":
            return Best(told[1], worth(task.goal, told[1]), Paper(cuts, ("worth", told[2])))
        if most is not None and len(cuts) >= most:
            return None
        cuts = cuts + (told[1],)
        rows = rows + (told[2],)
        tableau.back(0)
        tableau.add_row(told[2])
        found = mended(tableau, task.goal)
    return Nothing(_last_paper(task, cuts, "none", found[1]))
