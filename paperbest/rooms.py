"""Rooms: what late pairs, loads and full moments show, work in pieces, and what is needed when."""

from paperbest.benches import (
    backwards, bench_leaf, bench_starts, draws_of_starts, end_of, job_windows, jobs_of, later_start, load_leaf,
    size_of, work_of)


def room_draws(task, k, box):
    """A leaf that shuts the box, or the draws that late pairs, loads and full moments show."""
    wish = task.wishes[k]
    windows, size = job_windows(task, k, box), size_of(wish)
    leaf = room_leaf(k, windows, size)
    if leaf is not None:
        return ("leaf", leaf)
    backward = room_starts(k, backwards(windows), size)
    return draws_of_starts(wish, windows, room_starts(k, windows, size), backward)


def room_leaf(k, windows, size):
    """Some late pair, load or full moment of the windows, or None."""
    leaf = bench_leaf(k, windows, size)
    return full_leaf(k, windows, size) if leaf is None else leaf


def room_starts(k, windows, size):
    """For each job the greatest least start that such a leaf shows, with the leaf, or None."""
    starts = bench_starts(k, windows, size)
    full = full_starts(k, windows, size)
    return [later_start(starts[job], full[job]) for job in range(len(windows))]


def full_leaf(k, windows, size):
    """Some full moment of the windows, or None."""
    for window in windows:
        # What surely runs becomes more only where a job begins to run surely.
        jobs = jobs_sure_at(windows, window[1])
        if needs_of(windows, jobs) > size:
            return ("full", k, jobs, window[1])
    return None


def jobs_sure_at(windows, moment):
    """The lot of the jobs that surely run at a moment."""
    return tuple([job for job, window in enumerate(windows) if window[1] <= moment < window[0] + window[2]])


def needs_of(windows, jobs):
    """What some jobs need together."""
    return sum([windows[job][3] for job in jobs])


def full_starts(k, windows, size):
    """For each job the greatest least start that a full moment shows, with the leaf, or None."""
    return [_full_start(k, windows, size, job) for job in range(len(windows))]


def _full_start(k, windows, size, job):
    low, _, length, need = windows[job]
    last = low + length - 1
    best = None
    # What surely runs becomes less only where a job ceases to run surely.
    for moment in [last] + [window[0] + window[2] - 1 for window in windows]:
        if moment > last or (best is not None and moment < best[0]):
            continue
        others = [other for other in jobs_sure_at(windows, moment) if other != job]
        if needs_of(windows, others) + need > size:
            best = (moment + 1, ("full", k, tuple(sorted(others + [job])), moment))
    return best


def pieces_or_load(task, k, box):
    """Pieces in which the work of all jobs fits into their windows, or a load that shuts the box."""
    windows, size = job_windows(task, k, box), size_of(task.wishes[k])
    left = [work_of(window) for window in windows]
    moments = sorted(set([window[0] for window in windows] + [end_of(window) for window in windows]))
    pieces = []
    for start, end in zip(moments, moments[1:]):
        units = size * (end - start)
        # Who has to end first works first: if this does not fit, nothing does.
        for job in _open_jobs(windows, start, end):
            share = min(units, left[job])
            if share > 0:
                pieces.append((job, start, end, share))
                left[job] -= share
                units -= share
    if any([work > 0 for work in left]):
        return ("leaf", load_leaf(k, windows, size))
    return ("pieces", tuple(sorted(pieces)))


def _open_jobs(windows, start, end):
    """The jobs whose windows have a span, those that have to end first ahead."""
    jobs = [job for job, window in enumerate(windows) if window[0] <= start and end_of(window) >= end]
    return sorted(jobs, key=lambda at: (end_of(windows[at]), at))


def running_needs(task, k, point):
    """What the jobs that run need: pairs (moment, needs) where this changes."""
    return needs_over_time(job_spans(task.wishes[k], point))


def job_spans(wish, point):
    """For each job its start, its end and its need."""
    return [(point[place], point[place] + length, need) for place, length, need in jobs_of(wish)]


def sure_needs(task, k, box):
    """What the jobs that surely run in the box need: pairs (moment, needs) where this changes."""
    spans = []
    for low, high, length, need in job_windows(task, k, box):
        if high < low + length:
            spans.append((high, low + length, need))
    return needs_over_time(spans)


def needs_over_time(spans):
    """The needs of spans (start, end, need), added up: pairs (moment, needs) where this changes."""
    changes = {}
    for start, end, need in spans:
        changes[start] = changes.get(start, 0) + need
        changes[end] = changes.get(end, 0) - need
    needs = 0
    told = []
    for moment in sorted(changes):
        if changes[moment] != 0:
            needs += changes[moment]
            told.append((moment, needs))
    return tuple(told)
