"""Draws that best points of sums tell: by what it costs to leave an end, and to the least and greatest fractions."""

from paperbest.duals import mended, relaxed, solved, tableau_of, with_cuts
from paperbest.nodes import reaches
from paperbest.numbers import ceiling_of, floor_of, is_less, parted, taken, whole
from paperbest.simplex import to_best
from paperbest.steps import can_move, slopes_of, step_along
from paperbest.sums import END_WORDS, joined_multipliers

QUICK_STEPS = 4


def priced_draws(task, cuts, box, worth):
    """Draws to where the worth would be reached, told by the multipliers of a best point; or a leaf."""
    answer = relaxed(task, cuts, box)
    if answer[0] == "none":
        return ((), answer)
    _, _, least, multipliers = answer
    leaf = ("worth", multipliers)
    if reaches(least, worth):
        return ((), leaf)
    draws = []
    for (word, at), times in multipliers:
        if word not in END_WORDS:
            continue
        low, high = box[at]
        far = floor_of(parted(taken(whole(worth - 1), least), times))
        if high - low > far:
            draws.append((at, 1, low + far, leaf) if word == "low" else (at, 0, high - far, leaf))
    return (tuple(draws), None)


def exact_draws(task, cuts, box):
    """Draws to the least and the greatest fractions that suit, and a leaf if nothing suits what is left."""
    tableau = tableau_of(task, cuts, box)
    found = solved(tableau, (0,) * len(box))
    draws = []
    reached = {}
    for at in range(len(box)):
        for side in (0, 1):
            if found[0] == "sum":
                return (tuple(draws), ("none", with_cuts(task, found[1])))
            _add_reached(reached, tableau)
            if (at, side) in reached:
                continue
            goal = _end_goal(len(box), at, side)
            draw = _exact_draw(task, tableau, goal, at, side)
            if draw is not None:
                draws.append(draw)
                tableau.put_end(at, side, whole(draw[2]))
                found = mended(tableau, goal)
                # A fraction between the end and the next integer suits no more, so it tells nothing.
                reached = {}
    return (tuple(draws), None)


def _add_reached(reached, tableau):
    """Add the ends that unknowns have at the present point, which suits."""
    for at, value in enumerate(tableau.point()):
        for side, end in enumerate(tableau.ends(at)):
            if value == end:
                reached[(at, side)] = True


def _end_goal(many, at, side):
    """The goal that is least where an unknown is least (0) or greatest (1)."""
    return (0,) * at + (1 if side == 0 else -1,) + (0,) * (many - at - 1)


def _exact_draw(task, tableau, goal, at, side):
    """The draw to the least or greatest fraction of an unknown, None if this is its end already."""
    multipliers = with_cuts(task, quickly_best(tableau, goal))
    value = tableau.value(at)
    end = ceiling_of(value) if side == 0 else floor_of(value)
    if whole(end) == tableau.ends(at)[side]:
        return None
    # Beyond its best value the unknown contradicts the multipliers that give this value.
    other = (((END_WORDS[1 - side], at), whole(1)),)
    return (at, side, end, ("none", joined_multipliers(multipliers, other, whole(1))))


def quickly_best(tableau, goal):
    """Take the steepest steps first, which is quick but might not end."""
    for _ in range(QUICK_STEPS * tableau.places):
        gain = _steepest_gain(tableau, goal)
        if gain is None:
            break
        step_along(tableau, gain[0], gain[1])
    return to_best(tableau, goal)


def _steepest_gain(tableau, goal):
    """The column, with the sign of its move, along which the goal falls most steeply, or None."""
    best, most = None, None
    for column, slope in slopes_of(tableau, goal):
        sign = -1 if slope[0] > 0 else 1
        size = (abs(slope[0]), slope[1])
        if slope[0] == 0 or not can_move(tableau, column, sign):
            continue
        if most is None or is_less(most, size):
            best, most = (column, sign), size
    return best
