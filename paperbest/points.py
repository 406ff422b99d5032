"""Points: which values are some, what they are worth, and which wishes they keep."""

from paperbest.benches import size_of
from paperbest.errors import InvalidBox, InvalidPoint
from paperbest.numbers import is_whole
from paperbest.rooms import job_spans, needs_over_time
from paperbest.rows import total_of
from paperbest.tasks import box_of, is_pair


def check_point(task, value):
    """Raise InvalidPoint if any value is no point for the unknowns of a task."""
    if not isinstance(value, tuple) or len(value) != len(task.unknowns):
        raise InvalidPoint(-1)
    for at, item in enumerate(value):
        if not is_whole(item):
            raise InvalidPoint(at)


def check_box(task, value):
    """Raise InvalidBox if any value is no box for the unknowns of a task."""
    if not isinstance(value, tuple) or len(value) != len(task.unknowns):
        raise InvalidBox(-1)
    for at, item in enumerate(value):
        if not is_pair(item):
            raise InvalidBox(at)


def worth(goal, point):
    """The sum of the goal's integers times those of a point."""
    return total_of(goal, point)


def in_box(point, box):
    """Whether each integer of a point lies within the pair at its place."""
    return all([low <= value <= high for value, (low, high) in zip(point, box)])


def keeps_wish(wish, point):
    """Whether a point keeps a wish."""
    keeper = KEEPERS[wish[0]]
    return keeper(wish, point)


def broken(task, point):
    """The lot of the numbers of the wishes that a point does not keep."""
    return tuple([k for k, wish in enumerate(task.wishes) if not keeps_wish(wish, point)])


def keeps(task, point):
    """Whether a point keeps a task."""
    if not in_box(point, box_of(task)):
        return False
    for wish in task.wishes:
        if not keeps_wish(wish, point):
            return False
    return True


def _keeps_sum(wish, point):
    _, coefficients, equal, bound = wish
    total = total_of(coefficients, point)
    return total == bound if equal else total >= bound


def _keeps_unlike(wish, point):
    return len(set([point[place] for place in wish[1]])) == len(wish[1])


def _keeps_table(wish, point):
    return tuple([point[place] for place in wish[1]]) in wish[2]


def _keeps_either(wish, point):
    return any([_keeps_sum(item, point) for item in wish[1]])


def _keeps_jobs(wish, point):
    size = size_of(wish)
    return all([needs <= size for _, needs in needs_over_time(job_spans(wish, point))])


def _keeps_round(wish, point):
    """Whether one comes from the first unknown through all others before it comes again."""
    places = wish[1]
    at = 0
    for step in range(len(places)):
        at = point[places[at]]
        if not 0 <= at < len(places):
            return False
        if at == 0:
            return step == len(places) - 1
    return False


KEEPERS = {
    "sum": _keeps_sum,
    "unlike": _keeps_unlike,
    "table": _keeps_table,
    "either": _keeps_either,
    "bench": _keeps_jobs,
    "room": _keeps_jobs,
    "round": _keeps_round,
}
