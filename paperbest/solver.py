"""The solver: an answer for every task, and papers for worths."""

from paperbest.checker import paper_fault
from paperbest.duals import relaxed
from paperbest.errors import InvalidNumber
from paperbest.guesses import guess
from paperbest.moves import descent
from paperbest.nodes import point_count
from paperbest.numbers import is_number, is_whole
from paperbest.papers import Best, cut_rows
from paperbest.points import keeps
from paperbest.reasons import SUM_WORDS, leaves_in
from paperbest.rounding import nearest_point
from paperbest.rounds import rounds
from paperbest.rows import total_of
from paperbest.tasks import box_of
from paperbest.tree import TreeSearch, likely_search


def solve(task, *, passes=2, cutting=2, guessing=20, halving=40):
    """Some right answer to a task; the numbers tell how much is tried on the way."""
    for word, value in (("passes", passes), ("cutting", cutting), ("guessing", guessing), ("halving", halving)):
        if not is_number(value):
            raise InvalidNumber(word)
    cuts, _, answer = rounds(task, most=cutting)
    if answer is not None:
        return answer
    known = _first_point(task, cut_rows(task, cuts), guessing)
    return likely_search(task, cuts=cuts, known=known, halving=halving, passes=passes)


def _first_point(task, rows, guessing):
    """Some point that keeps the task, found near the best fractions or near 0, or None."""
    box = box_of(task)
    told = relaxed(task, rows, box)
    if told[0] == "none":
        return None
    start = guess(task, box, told[1])
    starts = (nearest_point(told[1]) if start is None else start, tuple([min(max(low, 0), high) for low, high in box]))
    best = None
    for point in starts:
        # Moves to better points keep what is kept, and often mend what is not.
        last = descent(task, box, point, most=guessing)[-1]
        if keeps(task, last) and (best is None or total_of(task.goal, last) < total_of(task.goal, best)):
            best = last
    return best


def answer_size(answer):
    """How many cuts, splits, leaves and keys of multipliers a right answer has."""
    paper = answer.paper
    leaves = leaves_in(paper.tree)
    keys = sum([len(multipliers) for multipliers in paper.cuts])
    keys += sum([len(leaf[1]) for leaf in leaves if leaf[0] in SUM_WORDS])
    return (len(paper.cuts), len(leaves) - 1, len(leaves), keys)


def most_leaves(task):
    """A number that the leaves of right answers stay within."""
    return point_count(box_of(task))


def is_paper(task, value, worth):
    """Whether any value is a paper that no kept point has a lesser worth, or (for None) that there is none."""
    return paper_fault(task, value, worth) is None


def better_point(task, worth):
    """Some point that keeps the task and has a lesser worth, or a paper that there is none."""
    if not is_whole(worth):
        raise InvalidNumber("worth")
    cuts, _, answer = rounds(task, most=2)
    if answer is not None:
        return _told_by(answer, worth)
    steps = TreeSearch(task, cuts=cuts, known=_first_point(task, cut_rows(task, cuts), 20))
    steps.likely = True
    while True:
        if steps.worth is not None and steps.worth < worth:
            return ("point", steps.known)
        bound = steps.bound()
        if bound is None or bound >= worth:
            return ("paper", steps.paper())
        steps.step()


def _told_by(answer, worth):
    if isinstance(answer, Best) and answer.worth < worth:
        return ("point", answer.point)
    return ("paper", answer.paper)
