"""The tree of splits: searches that always end with an answer, and all points that keep a task."""

from heapq import heappop, heappush

from paperbest.drawing import drawn
from paperbest.duals import relaxed
from paperbest.errors import InvalidNumber, Refused
from paperbest.finder import Finder
from paperbest.leaves import tree_after
from paperbest.likely import likely_place
from paperbest.nodes import halving_place, point_count, reaches, settled_wish, split_place, whole_point
from paperbest.numbers import ceiling_of, is_number
from paperbest.papers import Best, Nothing, Paper, cut_rows, split_box
from paperbest.points import check_point, keeps, worth
from paperbest.tasks import box_of, with_goal


class Node:
    """A box with the draws that led to it; what shuts it, or where it is split and the numbers of its sides.

    An open node has the leaf that shows its relaxed worth, with the point and this worth.
    """

    def __init__(self, box, above):
        self.box = box
        self.above = above
        self.draws = ()
        self.leaf = None
        self.spot = None
        self.least = None
        self.sides = None


class TreeSearch:
    """A search over a tree of nodes, step by step."""

    def __init__(self, task, *, cuts=(), known=None, deep=False, halving=40, passes=2):
        rows = cut_rows(task, cuts)
        if known is not None:
            check_point(task, known)
            if not keeps(task, known):
                raise Refused("known")
        if not is_number(passes):
            raise InvalidNumber("passes")
        self.task = task
        self.cuts = cuts
        self.known = known
        self.worth = None if known is None else worth(task.goal, known)
        self.deep = deep
        self.halving = halving
        self.passes = passes
        # Only the package asks for splits that are likely to help.
        self.likely = False
        self.made = 0
        self.depth = 0
        self._rows = rows
        self._nodes = []
        self._open = {}
        self._latest = []
        self._cheapest = []
        self._make(box_of(task), 0)

    def step(self):
        """Shut or split an open node; return whether there was one."""
        if not self._open:
            return False
        number = self._next_number()
        del self._open[number]
        node = self._nodes[number]
        if not self._is_reached(node.least):
            self._split(node)
        return True

    def open_boxes(self):
        """The drawn boxes of the open nodes, in the order in which they were made."""
        return tuple([self._nodes[number].box for number in sorted(self._open)])

    def left(self):
        """A number that each step makes less."""
        return sum([2 * point_count(box) - 1 for box in self.open_boxes()])

    def bound(self):
        """An integer that no point that keeps the task is worth less than, None if no point keeps it."""
        worths = [ceiling_of(self._nodes[number].least) for number in self._open]
        if self.worth is not None:
            worths.append(self.worth)
        return min(worths) if worths else None

    def paper(self):
        """The paper that shows the bound."""
        trees = [None] * self.made
        # The sides of a node were made after it.
        for number in reversed(range(self.made)):
            node = self._nodes[number]
            tree = node.leaf
            if node.sides is not None:
                at, k, lower, upper = node.sides
                tree = ("split", at, k, trees[lower], trees[upper])
            trees[number] = tree_after(node.draws, tree)
        return Paper(self.cuts, trees[0])

    def answer(self):
        """The answer to the task, None while a node is open."""
        if self._open:
            return None
        if self.known is None:
            return Nothing(self.paper())
        return Best(self.known, self.worth, self.paper())

    def _is_reached(self, least):
        """Whether a relaxed worth shuts a node."""
        return self.worth is not None and reaches(least, self.worth)

    def _next_number(self):
        """Take the node made last, or one of least relaxed worth once a point is known."""
        number = None
        # The other list still has nodes that this one gave.
        while number not in self._open:
            if self.deep or self.known is None:
                number = self._latest.pop()
            else:
                number = -heappop(self._cheapest)[1]
        return number

    def _make(self, box, above):
        """Make a node from a box, and return its number."""
        number = self.made
        node = Node(box, above)
        self._nodes.append(node)
        self.made += 1
        self.depth = max(self.depth, above)
        found = drawn(self.task, box, passes=self.passes, worth=self.worth)
        if found[0] == "none":
            node.leaf = found[1]
            return number
        _, node.box, node.draws = found
        settled = settled_wish(self.task, node.box)
        if settled is not None:
            node.leaf = ("broken", settled)
            return number
        told = relaxed(self.task, self._rows, node.box)
        if told[0] == "none":
            node.leaf = told
            return number
        _, node.spot, node.least, multipliers = told
        node.leaf = ("worth", multipliers)
        self._learn(whole_point(node.spot))
        if not self._is_reached(node.least):
            self._put_open(number)
        return number

    def _learn(self, point):
        """Make a point, or None, the known one if it keeps the task and is better."""
        if point is None or not keeps(self.task, point):
            return
        now = worth(self.task.goal, point)
        if self.worth is None or now < self.worth:
            self.known = point
            self.worth = now

    def _put_open(self, number):
        self._open[number] = True
        self._latest.append(number)
        heappush(self._cheapest, (ceiling_of(self._nodes[number].least), -number))

    def _split(self, node):
        if node.above >= self.halving:
            at, k = halving_place(node.box)
        elif self.likely:
            at, k = likely_place(self.task, node.box, node.spot)
        else:
            at, k = split_place(self.task, node.box, node.spot)
        below, above = split_box(node.box, at, k)
        top, bottom = node.spot[at]
        # The side that is nearer to the spot is made last, so that it is looked at first.
        if 2 * top < (2 * k + 1) * bottom:
            upper = self._make(above, node.above + 1)
            lower = self._make(below, node.above + 1)
        else:
            lower = self._make(below, node.above + 1)
            upper = self._make(above, node.above + 1)
        node.sides = (at, k, lower, upper)


def search(task, *, cuts=(), known=None, deep=False, halving=40, passes=2):
    """The answer to a task by a search."""
    return _last_answer(TreeSearch(task, cuts=cuts, known=known, deep=deep, halving=halving, passes=passes))


def likely_search(task, *, cuts=(), known=None, halving=40, passes=2):
    """The same, with splits that are likely to help."""
    steps = TreeSearch(task, cuts=cuts, known=known, deep=True, halving=halving, passes=passes)
    steps.likely = True
    return _last_answer(steps)


def _last_answer(steps):
    """The answer of a search when all its steps are taken."""
    more = True
    while more:
        more = steps.step()
    return steps.answer()


def kept_points(task, most):
    """The lot of all points that keep a task, if there are at most so many."""
    finder = Finder(with_goal(task, (0,) * len(task.goal)))
    return _points_of_one_worth(finder, most)


def best_points(task, most):
    """The lot of all best points of a task, if there are at most so many."""
    return _points_of_one_worth(Finder(task), most)


def _points_of_one_worth(finder, most):
    """The points that a finder finds first and that all have one worth, if there are at most so many."""
    points = []
    point = finder.following()
    least = None if point is None else worth(finder.task.goal, point)
    while point is not None and worth(finder.task.goal, point) == least:
        if len(points) >= most:
            raise Refused("many")
        points.append(point)
        point = finder.following()
    return tuple(sorted(points))
