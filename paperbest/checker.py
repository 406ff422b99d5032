"""The checker: whether trees, papers and answers are right, told without a search."""

from paperbest.errors import InvalidPaper, InvalidPoint
from paperbest.leaves import leaf_holds
from paperbest.numbers import is_whole
from paperbest.papers import Best, Nothing, Paper, cut_rows, split_box
from paperbest.points import check_point, keeps, worth
from paperbest.tasks import box_of


def is_answer(task, value):
    """Whether any value is a right answer to a task."""
    return first_fault(task, value) is None


def first_fault(task, value):
    """The first thing that is wrong with any value as an answer, None if it is a right one."""
    if isinstance(value, Nothing):
        return paper_fault(task, value.paper, None)
    if not isinstance(value, Best):
        return ("kind", 0)
    if not is_kept_point(task, value.point):
        return ("point", 0)
    if not is_whole(value.worth) or value.worth != worth(task.goal, value.point):
        return ("worth", 0)
    return paper_fault(task, value.paper, value.worth)


def is_kept_point(task, value):
    """Whether any value is a point that keeps a task."""
    try:
        check_point(task, value)
    except InvalidPoint:
        return False
    return keeps(task, value)


def paper_fault(task, value, least):
    """The first thing that is wrong with any value as a paper for a worth or None."""
    if not isinstance(value, Paper) or not isinstance(value.cuts, tuple):
        return ("paper", 0)
    try:
        rows = cut_rows(task, value.cuts)
    except InvalidPaper as fault:
        return ("cut", fault.at)
    number = tree_fault(task, rows, box_of(task), value.tree, least)
    return None if number is None else ("node", number)


def tree_fault(task, cuts, box, tree, least):
    """The number of the first wrong node of any value as a tree for a worth or None; None if it is right."""
    number = 0
    # Trees may be deep, so the nodes that are still to be looked at wait in a list.
    waiting = [(box, tree)]
    while waiting:
        inner, node = waiting.pop()
        if is_split(inner, node):
            _, at, k, lower, upper = node
            below, above = split_box(inner, at, k)
            waiting.append((above, upper))
            waiting.append((below, lower))
        elif not leaf_holds(task, cuts, inner, node, least):
            return number
        number += 1
    return None


def is_split(box, value):
    """Whether any value is a split of a box, whatever its sides are."""
    if not isinstance(value, tuple) or len(value) != 5 or not isinstance(value[0], str):
        return False
    word, at, k, _, _ = value
    if word != "split" or not is_whole(at) or not is_whole(k) or not 0 <= at < len(box):
        return False
    return box[at][0] <= k < box[at][1]
