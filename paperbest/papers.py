"""Papers: cuts and trees, and the answers that come with them."""

from paperbest.errors import InvalidPaper
from paperbest.leaves import with_pair
from paperbest.numbers import ceiling_of
from paperbest.sums import are_multipliers, summed
from paperbest.tasks import box_of


class Paper:
    """Cuts and a tree."""

    def __init__(self, cuts, tree):
        self.cuts = cuts
        self.tree = tree


class Best:
    """A best point, its worth, and a paper that none is better."""

    def __init__(self, point, worth, paper):
        self.point = point
        self.worth = worth
        self.paper = paper


class Nothing:
    """That no point keeps a task, with a paper that shows it."""

    def __init__(self, paper):
        self.paper = paper


def cut_row(task, cuts, multipliers):
    """The row of the cut that multipliers make, None if they make none."""
    coefficients, bound = summed(task, cuts, box_of(task), multipliers)
    if any([bottom != 1 for _, bottom in coefficients]) or not any([top != 0 for top, _ in coefficients]):
        return None
    return (tuple([top for top, _ in coefficients]), False, ceiling_of(bound))


def cut_rows(task, value):
    """The rows of cuts, which may be any value."""
    if not isinstance(value, tuple):
        raise InvalidPaper(-1)
    rows = ()
    for at, item in enumerate(value):
        row = None
        if are_multipliers(task, rows, box_of(task), item):
            row = cut_row(task, rows, item)
        if row is None:
            raise InvalidPaper(at)
        rows = rows + (row,)
    return rows


def split_box(box, at, k):
    """The boxes of the lower and of the upper side of a split."""
    low, high = box[at]
    return (with_pair(box, at, (low, k)), with_pair(box, at, (k + 1, high)))


def leaves_of(task, tree):
    """The pairs of box and leaf of a tree, those of lower sides first."""
    found = []
    waiting = [(box_of(task), tree)]
    while waiting:
        box, node = waiting.pop()
        if node[0] == "split":
            _, at, k, lower, upper = node
            below, above = split_box(box, at, k)
            waiting.append((above, upper))
            waiting.append((below, lower))
        else:
            found.append((box, node))
    return tuple(found)
