"""Live tasks: they change, changes can be taken back, and answers stay as long as they are right."""

from paperbest.checker import is_answer
from paperbest.errors import InvalidNumber, Refused
from paperbest.leaves import with_pair
from paperbest.numbers import is_number
from paperbest.solver import solve
from paperbest.tasks import box_of, is_name, is_pair, names_of, with_box, with_goal, with_wishes
from paperbest.wishes import is_integers, is_wish


class Live:
    """A task that changes."""

    def __init__(self, task):
        self._task = task
        self._before = []
        self._told = None

    def present(self):
        """The present task."""
        return self._task

    def put(self, wish):
        """Add a wish behind all others, and return its number."""
        if not is_wish(wish, len(self._task.unknowns)):
            raise Refused("wish")
        self._change(with_wishes(self._task, self._task.wishes + (wish,)))
        return len(self._task.wishes) - 1

    def strike(self, number):
        """Strike the wish with a number, and return it."""
        wishes = self._task.wishes
        if not is_number(number) or number >= len(wishes):
            raise InvalidNumber("number")
        self._change(with_wishes(self._task, wishes[:number] + wishes[number + 1:]))
        return wishes[number]

    def reach(self, name, low, high):
        """Replace the range of an unknown."""
        names = names_of(self._task)
        if not is_name(name) or name not in names:
            raise Refused("name")
        if not is_pair((low, high)):
            raise Refused("range")
        self._change(with_box(self._task, with_pair(box_of(self._task), names.index(name), (low, high))))

    def aim(self, goal):
        """Replace the goal."""
        if not is_integers(goal, len(self._task.unknowns)):
            raise Refused("goal")
        self._change(with_goal(self._task, goal))

    def undo(self):
        """Take back the last change that has not been taken back."""
        if not self._before:
            raise Refused("undo")
        self._task = self._before.pop()

    def changes(self):
        """How many changes have not been taken back."""
        return len(self._before)

    def answer(self):
        """A right answer to the present task: the last one told, as long as it is right."""
        if self._told is None or not is_answer(self._task, self._told):
            self._told = solve(self._task)
        return self._told

    def _change(self, task):
        self._before.append(self._task)
        self._task = task
