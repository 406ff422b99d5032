"""Best points of sums with their multipliers, and which points are best."""

from paperbest.numbers import added, is_fraction, is_less, parted, taken, timed, weighed, whole
from paperbest.simplex import keyed, repaired
from paperbest.steps import can_move, holding_ends, mending_sign, slopes_of
from paperbest.sums import above_key, are_multipliers, multipliers_of, summed
from paperbest.tableau import Tableau
from paperbest.tasks import Task, rows_of, with_goal
from paperbest.wishes import sum_wish

WORST_MENDS = 20


def with_cuts(task, multipliers):
    """The keys of a tableau's rows replaced by those of wishes and cuts."""
    numbers = [k for k, _ in rows_of(task)]
    table = {}
    for (word, at), times in multipliers:
        if word == "row":
            table[("row", numbers[at]) if at < len(numbers) else ("cut", at - len(numbers))] = times
        else:
            table[(word, at)] = times
    return multipliers_of(table)


def tableau_of(task, cuts, box):
    """The tableau of the sums of a task, then of the cuts, over a box."""
    return Tableau(tuple([row for _, row in rows_of(task)]) + tuple(cuts), box)


def relaxed(task, cuts, box):
    """A best point of fractions, its worth and multipliers that give it; or a sum that none suits."""
    tableau = tableau_of(task, cuts, box)
    found = solved(tableau, task.goal)
    multipliers = with_cuts(task, found[1])
    if found[0] == "sum":
        return ("none", multipliers)
    point = tableau.point()
    return ("best", point, weighed(task.goal, point), multipliers)


def solved(tableau, goal):
    """Bring a tableau whose columns are the unknowns to a best point, as repaired does."""
    second = _second_goal(tableau.many)
    for column, (times, other) in enumerate(zip(goal, second)):
        slope = times if times != 0 else other
        tableau.move(column, tableau.ends(column)[0 if slope > 0 else 1])
    return mended(tableau, goal)


def _second_goal(many):
    """A goal that breaks ties: with unlike integers mends seldom leave everything as it was."""
    return tuple([1 + (at + 1) * (at + 3) * 7919 % 1009 for at in range(many)])


def mended(tableau, goal):
    """Repair the place that is furthest beyond an end first, which is quick but might not end."""
    second = _second_goal(tableau.many)
    for _ in range(WORST_MENDS * tableau.places):
        beyond = _worst_beyond(tableau)
        if beyond is None:
            break
        place, side = beyond
        column = _cheapest_in_turn(tableau, (goal, second), place, side)
        if column is None:
            return ("sum", keyed(tableau, holding_ends(tableau, place, side)))
        tableau.exchange(place, column)
    return repaired(tableau, goal)


def _cheapest_in_turn(tableau, goals, place, side):
    """The column that brings a place nearer to its end at the least loss of the first goal, then of the next one."""
    row = tableau.row_at(place)
    columns = [column for column in row if can_move(tableau, column, mending_sign(side, row[column]))]
    for goal in goals:
        if len(columns) > 1:
            columns = _cheapest_of(columns, row, slopes_of(tableau, goal))
    return columns[0] if columns else None


def _cheapest_of(columns, row, slopes):
    """Those of the columns whose loss is least."""
    cheapest, least = [], None
    for column, slope in slopes:
        if column not in columns:
            continue
        loss = parted((abs(slope[0]), slope[1]), (abs(row[column][0]), row[column][1]))
        if least is None or is_less(loss, least):
            cheapest, least = [], loss
        if loss == least:
            cheapest.append(column)
    return cheapest


def _worst_beyond(tableau):
    """The place of the basis that is furthest beyond an end, with the side of this, or None."""
    worst, most = None, whole(0)
    for place in tableau.basis:
        value = tableau.value(place)
        for side, end in enumerate(tableau.ends(place)):
            if end is None:
                continue
            beyond = taken(end, value) if side == 0 else taken(value, end)
            if is_less(most, beyond):
                worst, most = (place, side), beyond
    return worst


def suits(task, cuts, box, point):
    """Whether fractions lie within the ends and keep all rows and cuts."""
    for value, (low, high) in zip(point, box):
        if is_less(value, whole(low)) or is_less(whole(high), value):
            return False
    for coefficients, equal, bound in [row for _, row in rows_of(task)] + list(cuts):
        total = weighed(coefficients, point)
        if is_less(total, whole(bound)) or (equal and total != whole(bound)):
            return False
    return True


def is_relaxed(task, cuts, box, value):
    """Whether any value is an answer as relaxed returns it."""
    if not isinstance(value, tuple) or not value or not isinstance(value[0], str):
        return False
    if value[0] == "none" and len(value) == 2:
        if not are_multipliers(task, cuts, box, value[1]):
            return False
        total, bound = summed(task, cuts, box, value[1])
        return not any([item[0] != 0 for item in total]) and bound[0] > 0
    if value[0] == "best" and len(value) == 4:
        return _is_best(task, cuts, box, value)
    return False


def _is_best(task, cuts, box, value):
    _, point, worth, multipliers = value
    if not isinstance(point, tuple) or len(point) != len(task.unknowns):
        return False
    if not all([is_fraction(item) for item in point]) or not is_fraction(worth):
        return False
    if not are_multipliers(task, cuts, box, multipliers) or not suits(task, cuts, box, point):
        return False
    total, bound = summed(task, cuts, box, multipliers)
    return total == tuple([whole(item) for item in task.goal]) and weighed(task.goal, point) == worth == bound


def gap_of(task, cuts, box, point, multipliers):
    """What a point is above the keys of multipliers, each times its fraction, added up."""
    gap = whole(0)
    for key, times in multipliers:
        gap = added(gap, timed(times, above_key(task, cuts, box, point, key)))
    return gap


def best_face(task, cuts, box, multipliers):
    """A task and a box that just the best points suit, told by the multipliers of one."""
    used = [key for key, _ in multipliers]
    wishes = []
    for k, wish in enumerate(task.wishes):
        wishes.append(("sum", wish[1], True, wish[3]) if ("row", k) in used else wish)
    for c, (coefficients, _, bound) in enumerate(cuts):
        wishes.append(sum_wish((coefficients, ("cut", c) in used, bound)))
    pairs = []
    for at, (low, high) in enumerate(box):
        if ("low", at) in used:
            pairs.append((low, low))
        else:
            pairs.append((high, high) if ("high", at) in used else (low, high))
    return (Task(task.unknowns, tuple(wishes), task.goal), tuple(pairs))


def in_turn(task, cuts, box, goals):
    """The answers for goals in turn, each over the best points of those before."""
    answers = []
    for goal in goals:
        task = with_goal(task, goal)
        answer = relaxed(task, cuts, box)
        answers.append(answer)
        if answer[0] == "none":
            return tuple(answers)
        task, box = best_face(task, cuts, box, answer[3])
        cuts = ()
    return tuple(answers)
