"""Finding the points that keep a task one after another, those of lesser worths first."""

from heapq import heappop, heappush

from paperbest.drawing import drawn
from paperbest.duals import relaxed
from paperbest.likely import likely_place
from paperbest.nodes import boxes_around, point_count, settled_wish, whole_point
from paperbest.numbers import ceiling_of
from paperbest.papers import split_box
from paperbest.plain import points_in
from paperbest.points import keeps, worth
from paperbest.tasks import box_of

PASSES = 2
FEW_POINTS = 12


class Finder:
    """Boxes, and points that were found, wait with the least worth that they may have; it changes."""

    def __init__(self, task, cuts=()):
        self.task = task
        self._rows = cuts
        self._queue = []
        self._waiting = {}
        self._made = 0
        self._put_box(box_of(task))

    def following(self):
        """The next point, None if there is none left."""
        while self._queue:
            _, number = heappop(self._queue)
            box, spot = self._waiting[-number]
            del self._waiting[-number]
            if box is None:
                return spot
            point = whole_point(spot)
            if point is not None and keeps(self.task, point):
                for inner in boxes_around(box, point):
                    self._put_box(inner)
                return point
            at, k = likely_place(self.task, box, spot)
            for inner in split_box(box, at, k):
                self._put_box(inner)
        return None

    def _put(self, least, item):
        """Let an item wait; of those with one worth the last one is the first."""
        self._made += 1
        self._waiting[self._made] = item
        heappush(self._queue, (least, -self._made))

    def _put_box(self, box):
        """Let a box wait if points that keep the task may be in it; of a small one these points themselves."""
        found = drawn(self.task, box, passes=PASSES)
        if found[0] == "none":
            return
        box = found[1]
        if point_count(box) <= FEW_POINTS:
            for point in points_in(box):
                if keeps(self.task, point):
                    self._put(worth(self.task.goal, point), (None, point))
            return
        if settled_wish(self.task, box) is not None:
            return
        told = relaxed(self.task, self._rows, box)
        if told[0] == "best":
            self._put(ceiling_of(told[2]), (box, told[1]))
