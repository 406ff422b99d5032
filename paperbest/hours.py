"""Hours of benches and rooms: which jobs run when, what they need, and seats for them."""

from paperbest.benches import jobs_of, size_of
from paperbest.errors import Refused
from paperbest.rooms import job_spans, needs_over_time

MOST_SEATS = 1000


def running(wish, point, moment):
    """The lot of the numbers of the jobs that run at a moment."""
    spans = job_spans(wish, point)
    return tuple([job for job, (start, end, _) in enumerate(spans) if start <= moment < end])


def load_between(wish, point, first, last):
    """What the running jobs need, added up over the moments from the first on and before the last."""
    load = 0
    for start, end, need in job_spans(wish, point):
        load += need * max(0, min(end, last) - max(start, first))
    return load


def peak(wish, point):
    """The first moment at which most is needed, and how much this is."""
    best = None
    for moment, needs in needs_over_time(job_spans(wish, point)):
        if best is None or needs > best[1]:
            best = (moment, needs)
    return best


def seats(wish, point):
    """For each job seats that no other job has while it runs, or None."""
    size = size_of(wish)
    if size > MOST_SEATS:
        raise Refused("size")
    jobs = jobs_of(wish)
    found = [None] * len(jobs)
    # For each seat the moment from which on it is free; who starts first sits down first.
    free_from = [None] * size
    for job in sorted(range(len(jobs)), key=lambda at: (point[jobs[at][0]], at)):
        place, length, need = jobs[job]
        start = point[place]
        free = [seat for seat, moment in enumerate(free_from) if moment is None or moment <= start]
        if len(free) < need:
            return None
        found[job] = tuple(free[:need])
        for seat in found[job]:
            free_from[seat] = start + length
    return tuple(found)
