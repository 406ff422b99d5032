"""Benches: windows of jobs, what late pairs and loads show, and the least end.

A window is a tuple (low, high, length, need). What shows a later least start is written once;
time that runs backwards makes greatest starts of it.
"""

from paperbest.errors import Refused

MOST_JOBS = 10


def jobs_of(wish):
    """The jobs of a bench or a room as triples (place, length, need)."""
    if wish[0] == "bench":
        return tuple([(place, length, 1) for place, length in wish[1]])
    return wish[1]


def size_of(wish):
    """The size of a bench or a room."""
    return 1 if wish[0] == "bench" else wish[2]


def job_windows(task, k, box):
    """For each job its least and greatest start in the box, its length and its need."""
    jobs = jobs_of(task.wishes[k])
    return tuple([(box[place][0], box[place][1], length, need) for place, length, need in jobs])


def end_of(window):
    """The greatest moment at which a job can end."""
    return window[1] + window[2]


def work_of(window):
    """The length of a job times its need."""
    return window[2] * window[3]


def backwards(windows):
    """The windows when time runs backwards."""
    return tuple([(-high - length, -low - length, length, need) for low, high, length, need in windows])


def leaf_backwards(leaf):
    """A leaf of jobs when time runs backwards."""
    if leaf[0] == "load":
        return leaf[:3] + (-leaf[4], -leaf[3])
    if leaf[0] == "full":
        # A moment lasts until the next one, so its end becomes its beginning.
        return leaf[:3] + (-leaf[3] - 1,)
    return leaf


def late_leaf(k, windows, size):
    """Some late pair of the windows, or None."""
    for later in range(len(windows)):
        for job in range(later):
            one, other = windows[job], windows[later]
            if one[3] + other[3] > size and one[0] + one[2] > other[1] and other[0] + other[2] > one[1]:
                return ("late", k, job, later)
    return None


def load_leaf(k, windows, size):
    """Some load of the windows, or None."""
    for first in sorted(set([window[0] for window in windows])):
        work = 0
        for job in jobs_from(windows, first):
            work += work_of(windows[job])
            last = end_of(windows[job])
            if work > size * (last - first):
                return ("load", k, jobs_within(windows, first, last), first, last)
    return None


def jobs_from(windows, first):
    """The jobs with least starts from a moment on, those with the least greatest end first."""
    jobs = [job for job, window in enumerate(windows) if window[0] >= first]
    return sorted(jobs, key=lambda at: (end_of(windows[at]), at))


def jobs_within(windows, first, last):
    """The lot of the jobs whose windows lie between two moments."""
    inner = [job for job, window in enumerate(windows) if window[0] >= first and end_of(window) <= last]
    return tuple(inner)


def late_starts(k, windows, size):
    """For each job the greatest least start that a late pair shows, with this leaf, or None."""
    starts = []
    for job, window in enumerate(windows):
        best = None
        for other, rival in enumerate(windows):
            if other == job or window[3] + rival[3] <= size or window[0] + window[2] <= rival[1]:
                continue
            leaf = ("late", k, min(job, other), max(job, other))
            best = later_start(best, (rival[0] + rival[2], leaf))
        starts.append(best)
    return starts


def load_starts(k, windows, size):
    """The same for loads; none of the windows may have a load already.

    Some jobs lie between two moments, another one may only start as early; if all their work is too
    much for this time, the other one cannot end before what the work of all of them takes.
    """
    spans = [None] * len(windows)
    for first in sorted(set([window[0] for window in windows])):
        inner = jobs_from(windows, first)
        work = 0
        for at, job in enumerate(inner):
            work += work_of(windows[job])
            last = end_of(windows[job])
            for other in inner[at + 1:]:
                total = work + work_of(windows[other])
                if total > size * (last - first):
                    start = first - (-total // size) - windows[other][2]
                    spans[other] = later_start(spans[other], (start, first, last))
    starts = []
    for job, span in enumerate(spans):
        starts.append(None if span is None else _load_start(k, windows, job, span))
    return starts


def _load_start(k, windows, job, span):
    start, first, last = span
    jobs = tuple(sorted(set(jobs_within(windows, first, last) + (job,))))
    return (start, ("load", k, jobs, first, max(last, start - 1 + windows[job][2])))


def later_start(one, other):
    """The one of two tuples that begins with the later start; each may be None."""
    if one is None or (other is not None and other[0] > one[0]):
        return other
    return one


def bench_leaf(k, windows, size):
    """Some late pair or load of the windows, or None."""
    leaf = late_leaf(k, windows, size)
    return load_leaf(k, windows, size) if leaf is None else leaf


def bench_starts(k, windows, size):
    """For each job the greatest least start that a late pair or a load shows, with the leaf, or None."""
    late = late_starts(k, windows, size)
    load = load_starts(k, windows, size)
    return [later_start(late[job], load[job]) for job in range(len(windows))]


def draws_of_starts(wish, windows, least, backward):
    """The draws to the starts that were shown, and to those that were shown when time runs backwards."""
    draws = []
    for job, (place, length, _) in enumerate(jobs_of(wish)):
        low, high = windows[job][0], windows[job][1]
        if least[job] is not None and least[job][0] > low:
            low = least[job][0]
            draws.append((place, 0, low, least[job][1]))
        if backward[job] is None:
            continue
        greatest = -backward[job][0] - length
        if low <= greatest < high:
            draws.append((place, 1, greatest, leaf_backwards(backward[job][1])))
    return tuple(draws)


def bench_draws(task, k, box):
    """A leaf of late pairs or loads that shuts the box, or the draws that such leaves show."""
    wish = task.wishes[k]
    windows, size = job_windows(task, k, box), size_of(wish)
    leaf = bench_leaf(k, windows, size)
    if leaf is not None:
        return ("leaf", leaf)
    backward = bench_starts(k, backwards(windows), size)
    return draws_of_starts(wish, windows, bench_starts(k, windows, size), backward)


def starts_in_sequence(task, k, box, sequence):
    """The least starts at which the jobs follow one another in a sequence, or None."""
    windows = job_windows(task, k, box)
    starts = [0] * len(windows)
    free = None
    for job in sequence:
        low, high, length, _ = windows[job]
        start = low if free is None else max(low, free)
        if start > high:
            return None
        starts[job] = start
        free = start + length
    return tuple(starts)


def least_bench_end(task, k, box):
    """The least moment at which all jobs of a bench can have ended, and some such starts, or None."""
    windows = job_windows(task, k, box)
    if len(windows) > MOST_JOBS:
        raise Refused("wide")
    # For each set of jobs, as bits, its least end and the job that then comes last.
    ends = {0: (min([window[0] for window in windows]), None)}
    for done in range(1, 1 << len(windows)):
        best = None
        for job, window in enumerate(windows):
            before = ends.get(done ^ (1 << job)) if done & (1 << job) else None
            if before is None:
                continue
            start = max(before[0], window[0])
            if start <= window[1] and (best is None or start + window[2] < best[0]):
                best = (start + window[2], job)
        if best is not None:
            ends[done] = best
    return _end_and_starts(task, k, box, ends)


def _end_and_starts(task, k, box, ends):
    done = (1 << len(task.wishes[k][1])) - 1
    if done not in ends:
        return None
    end = ends[done][0]
    sequence = []
    while done != 0:
        job = ends[done][1]
        sequence.append(job)
        done = done ^ (1 << job)
    return (end, starts_in_sequence(task, k, box, tuple(reversed(sequence))))
