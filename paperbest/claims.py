"""Claims about tasks, each shown by what it has."""

from paperbest.blame import is_lot_of_wishes, only_wishes, point_or_blame, shrunk_blame, without_number
from paperbest.cases import opposite_cases
from paperbest.checker import is_answer, is_kept_point
from paperbest.errors import InvalidNumber, Refused
from paperbest.listings import is_listing_for
from paperbest.numbers import is_whole
from paperbest.papers import Best
from paperbest.points import keeps_wish, worth
from paperbest.solver import better_point, is_paper, solve
from paperbest.tasks import Task, with_goal, with_wishes
from paperbest.wishes import is_wish


def is_claim(task, value):
    """Whether any value is a claim that what it has shows."""
    if not isinstance(value, tuple) or not value or not isinstance(value[0], str) or value[0] not in CLAIM_TESTS:
        return False
    test = CLAIM_TESTS[value[0]]
    return len(value) == CLAIM_ITEMS[value[0]] and test(task, value)


def _is_kept(task, value):
    return is_kept_point(task, value[1])


def _is_answer(task, value):
    return is_answer(task, value[1])


def _is_listing(task, value):
    return is_listing_for(task, value[1])


def _is_least(task, value):
    _, least, paper = value
    return is_whole(least) and is_paper(task, paper, least)


def _is_better(task, value):
    _, least, point = value
    return is_whole(least) and is_kept_point(task, point) and worth(task.goal, point) < least


def _is_blame(task, value):
    _, lot, paper, points = value
    if not is_lot_of_wishes(task, lot) or not isinstance(points, tuple) or len(points) != len(lot):
        return False
    for number, point in zip(lot, points):
        if not is_kept_point(only_wishes(task, without_number(lot, number)), point):
            return False
    return is_paper(only_wishes(task, lot), paper, None)


def _is_following(task, value):
    _, wish, papers = value
    return is_wish(wish, len(task.unknowns)) and _are_papers(task, wish, papers)


def _are_papers(task, wish, value):
    """Whether any value is papers that no point keeps a task and breaks a wish, one for each case of this."""
    if not isinstance(value, tuple):
        return False
    cases = _cases_or_none(task, wish)
    if cases is None or len(value) != len(cases):
        return False
    return all([is_paper(_with_case(task, case), paper, None) for case, paper in zip(cases, value)])


def _cases_or_none(task, wish):
    try:
        cases = opposite_cases(task, wish)
    except Refused:
        return None
    return cases


def _with_case(task, case):
    """The task with the wishes of a case behind its own."""
    return with_wishes(task, task.wishes + case)


def _is_apart(task, value):
    _, wish, point = value
    return is_wish(wish, len(task.unknowns)) and is_kept_point(task, point) and not keeps_wish(wish, point)


def _is_other(task, value):
    """Whether any value is a task with the same unknowns."""
    return isinstance(value, Task) and value.unknowns == task.unknowns


def _is_same(task, value):
    _, other, there, back = value
    return _is_other(task, other) and _are_all_papers(task, other, there) and _are_all_papers(other, task, back)


def _are_all_papers(task, other, value):
    """Whether any value is papers for each wish of another task."""
    if not isinstance(value, tuple) or len(value) != len(other.wishes):
        return False
    return all([_are_papers(task, wish, papers) for wish, papers in zip(other.wishes, value)])


def _is_parted(task, value):
    _, other, point = value
    return _is_other(task, other) and is_kept_point(task, point) != is_kept_point(other, point)


CLAIM_TESTS = {
    "kept": _is_kept,
    "answer": _is_answer,
    "listing": _is_listing,
    "least": _is_least,
    "better": _is_better,
    "blame": _is_blame,
    "follows": _is_following,
    "apart": _is_apart,
    "same": _is_same,
    "parted": _is_parted,
}
CLAIM_ITEMS = {
    "kept": 2, "answer": 2, "listing": 2, "least": 3, "better": 3, "blame": 4, "follows": 3, "apart": 3, "same": 4,
    "parted": 3}


def follow_claim(task, wish):
    """Whether a wish follows from a task: papers for all its cases, or a point that breaks it."""
    if not is_wish(wish, len(task.unknowns)):
        raise Refused("wish")
    papers, point = _papers_or_point(task, wish)
    return ("follows", wish, papers) if point is None else ("apart", wish, point)


def _papers_or_point(task, wish):
    """Papers for all cases of a wish, or a point that keeps a task and breaks the wish."""
    papers = []
    for case in opposite_cases(task, wish):
        answer = solve(with_goal(_with_case(task, case), (0,) * len(task.goal)))
        if isinstance(answer, Best):
            return (None, answer.point)
        papers.append(answer.paper)
    return (tuple(papers), None)


def same_claim(task, other):
    """Whether the same points keep two tasks: papers for all wishes of both, or a point that keeps just one."""
    if not _is_other(task, other):
        raise Refused("unknowns")
    sides = []
    for one, wishes in ((task, other.wishes), (other, task.wishes)):
        side = []
        for wish in wishes:
            papers, point = _papers_or_point(one, wish)
            if point is not None:
                return ("parted", other, point)
            side.append(papers)
        sides.append(tuple(side))
    return ("same", other, sides[0], sides[1])


def worth_claim(task, least):
    """Whether no point that keeps a task is worth less than an integer."""
    if not is_whole(least):
        raise InvalidNumber("worth")
    word, shown = better_point(task, least)
    return ("better", least, shown) if word == "point" else ("least", least, shown)


def blame_claim(task):
    """A point that keeps a task, or a least lot of wishes to blame."""
    point, lot = point_or_blame(task)
    if point is not None:
        return ("kept", point)
    lot = shrunk_blame(task, lot)
    points = [point_or_blame(only_wishes(task, without_number(lot, number)))[0] for number in lot]
    return ("blame", lot, solve(only_wishes(task, lot)).paper, tuple(points))
