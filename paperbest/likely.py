"""Where a split is likely to help: where one side keeps, or gives up, a part of the wish that is broken."""

from itertools import combinations

from paperbest.benches import jobs_of, size_of
from paperbest.ends import telling
from paperbest.hours import peak, running
from paperbest.nodes import first_broken, split_place, whole_point


def likely_place(task, box, spot):
    """The unknown and the value at which to split a box, told by fractions that do not keep the task."""
    point = whole_point(spot)
    place = None
    if point is not None:
        wish = task.wishes[first_broken(task, point)]
        if wish[0] in ("bench", "room"):
            place = _jobs_place(wish, box, point)
        elif wish[0] == "either":
            place = _either_place(wish, box, point)
    return split_place(task, box, spot) if place is None else place


def jobs_too_many(wish, point):
    """Some jobs that run at one moment and are too much together, in a bench or a room that a point breaks."""
    jobs = jobs_of(wish)
    busy = sorted(running(wish, point, peak(wish, point)[0]), key=lambda job: -jobs[job][2])
    some = []
    while sum([jobs[job][2] for job in some]) <= size_of(wish):
        some.append(busy[len(some)])
    return [jobs[job] for job in some]


def _jobs_place(wish, box, point):
    """Where on one side one of two jobs that are apart has to come first, and on the other side need not; or None."""
    # Who starts first is likely to come first.
    some = sorted(jobs_too_many(wish, point), key=lambda job: (point[job[0]], box[job[0]][1] + job[1]))
    for one, other in combinations(list(some), 2):
        if one[2] + other[2] <= size_of(wish):
            continue
        for job, later in ((one, other), (other, one)):
            low, high = box[job[0]]
            k = point[later[0]] + later[1] - 1
            if point[later[0]] == box[later[0]][0] and low <= k < high:
                return (job[0], k)
            low, high = box[later[0]]
            k = point[job[0]] - later[1]
            if point[job[0]] == box[job[0]][1] and low <= k < high:
                return (later[0], k)
    return None


def _either_place(wish, box, point):
    """Where one of the sums is given up on one side, and may be kept on the other; or None."""
    for _, coefficients, _, bound in wish[1]:
        for at, times in enumerate(coefficients):
            side = 0 if times > 0 else 1
            end = telling((coefficients, False, bound), box, at, side)
            if end is None:
                continue
            low, high = box[at]
            if side == 0 and max(low, point[at]) < end <= high:
                return (at, end - 1)
            if side == 1 and low <= end < min(high, point[at]):
                return (at, end)
    return None
