"""Points near a hint: the nearest one that keeps a task, and the best one within a distance."""

from heapq import heappop, heappush
from itertools import combinations

from paperbest.cheapest import assigned
from paperbest.distances import Distances
from paperbest.drawing import drawn
from paperbest.duals import relaxed
from paperbest.likely import jobs_too_many
from paperbest.nodes import first_broken, settled_wish, split_place, whole_point
from paperbest.numbers import ceiling_of, whole
from paperbest.papers import Best, split_box
from paperbest.points import keeps
from paperbest.rows import total_of
from paperbest.tasks import with_goal
from paperbest.tree import likely_search

PASSES = 2


def distance_between(one, other):
    """The sum of the differences of two points, without signs."""
    return sum([abs(value - far) for value, far in zip(one, other)])


def nearest_kept(task, box, hint, *, most):
    """Some point in the box that keeps the task and is nearest to a hint, with its distance, or None."""
    near = _near_box(box, hint, most)
    if near is None:
        return None
    point = NearSearch(task, near, hint, most).nearest()
    return None if point is None else (point, distance_between(point, hint))


def best_near(task, box, hint, *, most):
    """Some point with the least worth in the box that keeps the task and is near enough to a hint, or None."""
    near = _near_box(box, hint, most)
    if near is None:
        return None
    distances = Distances(task, near, hint, most)
    answer = likely_search(with_goal(distances.wide, task.goal + (0,) * len(distances.ranges)))
    return answer.point[:len(hint)] if isinstance(answer, Best) else None


def _near_box(box, hint, most):
    """The part of a box in which no unknown is too far from a hint, or None."""
    pairs = [(max(low, at - most), min(high, at + most)) for (low, high), at in zip(box, hint)]
    return None if any([low > high for low, high in pairs]) else tuple(pairs)


class NearSearch:
    """Boxes with rows wait, each with fractions that no point in it that keeps all is nearer than; it changes.

    The rows tell which job comes before which other one.
    """

    def __init__(self, task, box, hint, most):
        self.task = task
        self.hint = hint
        self.most = most
        self._distances = Distances(task, box, hint, most)
        self._has_sums = any([wish[0] == "sum" for wish in task.wishes])
        self._queue = []
        self._waiting = {}
        self._made = 0
        self._put(box, ())

    def nearest(self):
        """The nearest point, or None."""
        while self._queue:
            _, number = heappop(self._queue)
            box, rows, spot = self._waiting[-number]
            del self._waiting[-number]
            point = whole_point(spot)
            if point is not None and keeps(self.task, point):
                return point
            for inner, further in self._parts(box, rows, spot):
                self._put(inner, further)
        return None

    def _parts(self, box, rows, spot):
        """Boxes with rows that together have all points of a box that keep its rows and the task."""
        point = whole_point(spot)
        if point is not None and all([total_of(row[0], point) >= row[2] for row in rows]):
            wish = self.task.wishes[first_broken(self.task, point)]
            if wish[0] in ("bench", "room"):
                return [(box, rows + (row,)) for row in _orders(wish, point)]
        at, k = split_place(self.task, box, spot)
        return [(inner, rows) for inner in split_box(box, at, k)]

    def _put(self, box, rows):
        """Let a box wait if points that are near enough and keep the task and the rows may be in it."""
        found = drawn(self.task, box, passes=PASSES, cuts=rows)
        if found[0] == "none" or settled_wish(self.task, found[1]) is not None:
            return
        box = found[1]
        told = self._told_by_sums(box, rows)
        if told is None:
            return
        for wish in self.task.wishes:
            if wish[0] == "unlike":
                other = self._told_by_unlike(wish, box)
                if other is not None and other[0] > told[0]:
                    told = other
        if told[0] <= self.most:
            self._made += 1
            self._waiting[self._made] = (box, rows, told[1])
            heappush(self._queue, (told[0], -self._made))

    def _told_by_sums(self, box, rows):
        """The least distance at which fractions keep the sums and rows, with these; None if none do."""
        if not self._has_sums and not rows:
            point = self._brought_into(box)
            return (distance_between(point, self.hint), tuple([whole(value) for value in point]))
        ranges = self._distances.ranges
        wider = tuple([(coefficients + (0,) * len(ranges), False, bound) for coefficients, _, bound in rows])
        told = relaxed(self._distances.wide, wider, box + ranges)
        if told[0] == "none":
            return None
        return (ceiling_of(told[2]) + self._distances.constant, told[1][:len(box)])

    def _told_by_unlike(self, wish, box):
        """The least distance at which points keep an unlike, with one; None if none do."""
        costs = {}
        for place in wish[1]:
            costs[place] = self._costs_of(place, box[place], len(wish[1]))
        owners = {}
        if not assigned(costs, owners, {}):
            return None
        values = list(self._brought_into(box))
        for value, place in owners.items():
            values[place] = value
        return (distance_between(values, self.hint), tuple([whole(value) for value in values]))

    def _costs_of(self, place, pair, many):
        """The distances of so many values of an unknown, those next to the hint."""
        far = self.hint[place]
        start = min(max(far, pair[0]), pair[1])
        values = list(range(max(pair[0], start - many), min(pair[1], start + many) + 1))
        nearest = sorted(values, key=lambda value: (abs(value - far), value))
        return {value: abs(value - far) for value in nearest[:many]}

    def _brought_into(self, box):
        """The hint, in each place brought to the nearer end if it is beyond."""
        return tuple([min(max(far, low), high) for far, (low, high) in zip(self.hint, box)])


def _orders(wish, point):
    """Rows of which each point that keeps a bench or a room keeps one: that one job ends before another one starts.

    The jobs run at a moment at which they are too much together.
    """
    rows = []
    for one, other in combinations(list(jobs_too_many(wish, point)), 2):
        rows.append(_order(len(point), one, other))
        rows.append(_order(len(point), other, one))
    return rows


def _order(size, job, later):
    """The row that a job ends before another one starts."""
    coefficients = tuple([-1 if at == job[0] else 1 if at == later[0] else 0 for at in range(size)])
    return (coefficients, False, job[1])
