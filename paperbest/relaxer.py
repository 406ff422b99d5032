"""Best points of the sums of a task over many boxes, each found from where the last one was."""

from paperbest.duals import mended, second_goal, tableau_of, with_cuts
from paperbest.numbers import weighed, whole
from paperbest.steps import slopes_of
from paperbest.tasks import box_of


class Relaxer:
    """One tableau for all boxes; it changes."""

    def __init__(self, task, cuts):
        self.task = task
        self._tableau = tableau_of(task, cuts, box_of(task))

    def told(self, box):
        """What relaxed tells of a box within the ends of the task."""
        tableau = self._tableau
        tableau.back(0)
        for at, ends in enumerate(box):
            for side, end in enumerate(ends):
                if tableau.ends(at)[side] != whole(end):
                    tableau.put_end(at, side, whole(end))
        self._to_cheap_ends()
        found = mended(tableau, self.task.goal)
        multipliers = with_cuts(self.task, found[1])
        if found[0] == "sum":
            return ("none", multipliers)
        point = tableau.point()
        return ("best", point, weighed(self.task.goal, point), multipliers)

    def _to_cheap_ends(self):
        """Move each column to the end at which it costs least.

        Whatever the box is, nothing can be gained then: what columns cost hangs on the columns alone, and no
        mend makes it a gain to move a sum.
        """
        tableau = self._tableau
        slopes = slopes_of(tableau, self.task.goal)
        seconds = slopes_of(tableau, second_goal(tableau.many))
        for (column, slope), (_, other) in zip(slopes, seconds):
            sign = slope[0] if slope[0] != 0 else other[0]
            end = tableau.ends(column)[0 if sign > 0 else 1]
            if sign != 0 and end is not None:
                tableau.move(column, end)
