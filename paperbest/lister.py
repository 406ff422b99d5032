"""The trees of listings: each point that is looked for has a leaf of its own."""

from paperbest.drawing import drawn
from paperbest.duals import relaxed
from paperbest.errors import Refused
from paperbest.leaves import tree_after
from paperbest.likely import likely_place
from paperbest.nodes import point_count, reaches, settled_wish, whole_point
from paperbest.papers import split_box
from paperbest.points import keeps
from paperbest.tasks import box_of

PASSES = 2
HERE = ("here",)


class Piece:
    """A box with the draws that led to it, and its leaf, or where it is split and the numbers of its sides."""

    def __init__(self):
        self.draws = ()
        self.leaf = None
        self.sides = None


class Lister:
    """Finds all points that keep a task and are worth less than a bound; it changes."""

    def __init__(self, task, rows, bound, most):
        self.task = task
        self.points = []
        self._most = most
        self._bound = bound
        self._rows = rows
        self._pieces = []
        self._waiting = []

    def tree(self):
        """The tree of the listing; the points are known behind it."""
        self._put(box_of(self.task), None)
        while self._waiting:
            number, box, point = self._waiting.pop()
            self._look(self._pieces[number], box, point)
        many = len(self._pieces)
        trees = [None] * many
        # The sides of a piece were made after it.
        for number in reversed(range(many)):
            piece = self._pieces[number]
            tree = piece.leaf
            if piece.sides is not None:
                at, k, lower, upper = piece.sides
                tree = ("split", at, k, trees[lower], trees[upper])
            trees[number] = tree_after(piece.draws, tree)
        return trees[0]

    def _put(self, box, point):
        """Let a box wait, with a point in it that is looked for, or None; return its number."""
        self._pieces.append(Piece())
        self._waiting.append((len(self._pieces) - 1, box, point))
        return len(self._pieces) - 1

    def _look(self, piece, box, point):
        found = drawn(self.task, box, passes=PASSES, worth=self._bound)
        if found[0] == "none":
            piece.leaf = found[1]
            return
        _, box, piece.draws = found
        if point is None:
            spot = self._spot_or_leaf(piece, box)
            if spot is None:
                return
            point = whole_point(spot)
            if point is None or not keeps(self.task, point):
                at, k = likely_place(self.task, box, spot)
                self._part(piece, box, at, k, None)
                return
        if point_count(box) == 1:
            self._add(point)
            piece.leaf = HERE
            return
        at = [place for place, (low, high) in enumerate(box) if low < high][0]
        k = point[at] - 1 if point[at] > box[at][0] else point[at]
        self._part(piece, box, at, k, point)

    def _spot_or_leaf(self, piece, box):
        """The fractions of least worth in a box; None if a leaf shuts it, which the piece gets."""
        settled = settled_wish(self.task, box)
        if settled is not None:
            piece.leaf = ("broken", settled)
            return None
        told = relaxed(self.task, self._rows, box)
        if told[0] == "none":
            piece.leaf = told
            return None
        if reaches(told[2], self._bound):
            piece.leaf = ("worth", told[3])
            return None
        return told[1]

    def _part(self, piece, box, at, k, point):
        """Split a box; the side that has the point, if there is one, keeps it."""
        below, above = split_box(box, at, k)
        is_below = point is not None and point[at] <= k
        lower = self._put(below, point if is_below else None)
        upper = self._put(above, None if is_below else point)
        piece.sides = (at, k, lower, upper)

    def _add(self, point):
        if len(self.points) >= self._most:
            raise Refused("many")
        self.points.append(point)
