"""Listings: all points up to a worth, with a paper that there are no others."""

from paperbest.checker import is_kept_point, is_split
from paperbest.errors import InvalidNumber, InvalidPaper, Refused
from paperbest.finder import Finder
from paperbest.leaves import leaf_holds
from paperbest.lister import HERE, Lister
from paperbest.numbers import is_number, is_whole
from paperbest.papers import Best, Paper, cut_rows, split_box
from paperbest.rounds import rounds
from paperbest.rows import total_of
from paperbest.solver import solve
from paperbest.tasks import box_of, with_wishes

MOST_POINTS = 1000
ROUNDS = 2


class Listing:
    """Points, a worth that none of them is above, and a paper that there are no others."""

    def __init__(self, points, worth, paper):
        self.points = points
        self.worth = worth
        self.paper = paper


def is_listing_for(task, value):
    """Whether any value is a right listing for a task."""
    if not isinstance(value, Listing) or not is_whole(value.worth) or not isinstance(value.paper, Paper):
        return False
    if not _are_points(task, value.points, value.worth):
        return False
    try:
        rows = cut_rows(task, value.paper.cuts)
    except InvalidPaper:
        return False
    return _is_tree(task, rows, value)


def _are_points(task, value, worth):
    """Whether any value is a lot of points that keep a task and have at most a worth."""
    if not isinstance(value, tuple):
        return False
    for point in value:
        if not is_kept_point(task, point) or total_of(task.goal, point) > worth:
            return False
    return all([one < other for one, other in zip(value, value[1:])])


def _is_tree(task, rows, listing):
    points = {point: True for point in listing.points}
    waiting = [(box_of(task), listing.paper.tree)]
    while waiting:
        box, node = waiting.pop()
        if is_split(box, node):
            below, above = split_box(box, node[1], node[2])
            waiting.append((above, node[4]))
            waiting.append((below, node[3]))
        elif _is_here(node):
            if any([low < high for low, high in box]) or tuple([low for low, _ in box]) not in points:
                return False
        elif not leaf_holds(task, rows, box, node, listing.worth + 1):
            return False
    return True


def _is_here(value):
    return isinstance(value, tuple) and len(value) == 1 and isinstance(value[0], str) and value[0] == HERE[0]


def _check_most(most):
    if not is_number(most) or most > MOST_POINTS:
        raise InvalidNumber("most")


def listed(task, worth, *, most=1000):
    """Some right listing of the points with at most a worth."""
    if not is_whole(worth):
        raise InvalidNumber("worth")
    _check_most(most)
    cuts = rounds(task, most=ROUNDS)[0]
    lister = Lister(task, cut_rows(task, cuts), worth + 1, most)
    tree = lister.tree()
    return Listing(tuple(sorted(lister.points)), worth, Paper(cuts, tree))


def all_best(task, *, most=1000):
    """Some right listing of the best points, or some right Nothing."""
    _check_most(most)
    answer = solve(task)
    return listed(task, answer.worth, most=most) if isinstance(answer, Best) else answer


def above_worth(task, worth):
    """The task with one further wish, that points are worth more."""
    if not is_whole(worth):
        raise InvalidNumber("worth")
    if not any([times != 0 for times in task.goal]):
        raise Refused("goal")
    return with_wishes(task, task.wishes + (("sum", task.goal, False, worth + 1),))


def next_best(task, worth):
    """Some right answer to the task in which points are worth more."""
    return solve(above_worth(task, worth))


def ranked(task, *, many):
    """The first points by their worths, with a listing that tells them, or a Nothing."""
    if not is_number(many) or many > MOST_POINTS:
        raise InvalidNumber("many")
    answer = solve(task)
    if not isinstance(answer, Best):
        return ((), answer)
    last = answer.worth
    finder = Finder(task, cut_rows(task, rounds(task, most=ROUNDS)[0]))
    for _ in range(many):
        point = finder.following()
        if point is None:
            break
        last = total_of(task.goal, point)
    listing = listed(task, last)
    order = sorted([(total_of(task.goal, point), point) for point in listing.points])
    return (tuple([point for _, point in order[:many]]), listing)
