"""How many points of a box keep a wish, counted without going through them."""

from paperbest.benches import jobs_of, size_of
from paperbest.errors import Refused
from paperbest.wishes import named_by

MOST_WORK = 20000
WAITS = -1


def count_kept(wish, box):
    """How many points of a box keep a wish."""
    if count_work(wish, box) > MOST_WORK:
        raise Refused("size")
    counter = COUNTERS[wish[0]]
    many = counter(wish, box)
    named = named_by(wish)
    for at, pair in enumerate(box):
        if at not in named:
            many = many * _width(pair)
    return many


def count_work(wish, box):
    """How much work it is to count the points that keep a wish."""
    if wish[0] == "table":
        return len(wish[2])
    if wish[0] in ("sum", "either"):
        work = sum([_width(box[at]) for at in named_by(wish)])
        for item in _sums_of(wish):
            work = work * (_spread(item, box) + 1)
        return work
    if wish[0] == "round":
        return len(wish[1]) << len(wish[1])
    work = 1
    if wish[0] == "unlike":
        for _ in wish[1]:
            work = work * 3
        return work
    for job in wish[1]:
        work = work * (2 if wish[0] == "bench" else job[1] + 2)
    if wish[0] == "bench":
        work = work * max([job[1] for job in wish[1]])
    first, last = _moments(wish, box)
    return work * (last - first + 1)


def _width(pair):
    return pair[1] - pair[0] + 1


def _sums_of(wish):
    """The sums of an either; a sum itself."""
    return (wish,) if wish[0] == "sum" else wish[1]


def _spread(item, box):
    """The greatest total of a sum over a box less the least one."""
    return sum([abs(times) * (high - low) for times, (low, high) in zip(item[1], box)])


def _moments(wish, box):
    """The first and the last moment at which a job of a bench or a room may start."""
    pairs = [box[job[0]] for job in wish[1]]
    return (min([low for low, _ in pairs]), max([high for _, high in pairs]))


def _count_table(wish, box):
    pairs = [box[place] for place in wish[1]]
    return len([1 for lot in wish[2] if _lies_in(lot, pairs)])


def _lies_in(lot, pairs):
    return all([low <= item <= high for item, (low, high) in zip(lot, pairs)])


def _count_sums(wish, box):
    """Count, unknown by unknown, how often the sums together have each of their totals."""
    sums = _sums_of(wish)
    counts = {(0,) * len(sums): 1}
    for at in named_by(wish):
        after = {}
        steps = [item[1][at] for item in sums]
        for value in range(box[at][0], box[at][1] + 1):
            for totals in counts:
                key = tuple([total + step * value for total, step in zip(totals, steps)])
                after[key] = after.get(key, 0) + counts[totals]
        counts = after
    return sum([counts[totals] for totals in counts if _keeps_some(sums, totals)])


def _keeps_some(sums, totals):
    for (_, _, equal, bound), total in zip(sums, totals):
        if total == bound or (total > bound and not equal):
            return True
    return False


def _count_unlike(wish, box):
    """Count for each set of places, as bits, by the block of those with the value of its first place.

    Which blocks have one value each is counted with signs, so that just those values that are all
    unlike are left.
    """
    pairs = [box[place] for place in wish[1]]
    blocks = _signed_blocks(pairs)
    counts = [1] + [0] * (len(blocks) - 1)
    for places in range(1, len(blocks)):
        first = places & -places
        rest = places ^ first
        others = rest
        while True:
            counts[places] += blocks[first | others] * counts[rest ^ others]
            if others == 0:
                break
            others = (others - 1) & rest
    return counts[-1]


def _signed_blocks(pairs):
    """For each set of places the number of values that all have, times (size - 1)!, with its sign."""
    blocks = [0] * (1 << len(pairs))
    for places in range(1, len(blocks)):
        inner = [pair for at, pair in enumerate(pairs) if places & (1 << at)]
        count = max(0, min([high for _, high in inner]) - max([low for low, _ in inner]) + 1)
        for many in range(1, len(inner)):
            count = count * -many
        blocks[places] = count
    return blocks


def _count_round(wish, box):
    """Count the ways from the first place through sets of places, as bits, by the last one."""
    many = len(wish[1])
    pairs = [box[place] for place in wish[1]]
    ways = [[0] * many for _ in range(1 << many)]
    ways[1][0] = 1
    for seen in range(1, 1 << many):
        for last, (low, high) in enumerate(pairs):
            if ways[seen][last] == 0:
                continue
            for after in range(max(low, 0), min(high, many - 1) + 1):
                if not seen & (1 << after):
                    ways[seen | (1 << after)][after] += ways[seen][last]
    full = ways[-1]
    return sum([full[last] for last, (low, high) in enumerate(pairs) if low <= 0 <= high])


def _count_bench(wish, box):
    """Count by moments: which jobs have begun, as bits, and how long the last one still runs."""
    pairs = [box[place] for place, _ in wish[1]]
    counts = {(0, 0): 1}
    first, last = _moments(wish, box)
    for moment in range(first, last + 1):
        after = {}
        for (begun, left), many in counts.items():
            _add(after, (begun, max(left - 1, 0)), many)
            if left > 0:
                continue
            for job, (_, length) in enumerate(wish[1]):
                low, high = pairs[job]
                if not begun & (1 << job) and low <= moment <= high:
                    _add(after, (begun | (1 << job), length - 1), many)
        counts = after
    everything = (1 << len(pairs)) - 1
    return sum([many for (begun, _), many in counts.items() if begun == everything])


def _add(counts, key, many):
    counts[key] = counts.get(key, 0) + many


def _count_room(wish, box):
    """Count by moments: of each job how long it still runs, 0 if it has ended, WAITS before its start."""
    jobs, size = jobs_of(wish), size_of(wish)
    counts = {(WAITS,) * len(jobs): 1}
    first, last = _moments(wish, box)
    for moment in range(first, last + 1):
        for job in range(len(jobs)):
            counts = _begun(counts, job, jobs[job][1], box[jobs[job][0]], moment)
        after = {}
        for state, many in counts.items():
            if sum([need for left, (_, _, need) in zip(state, jobs) if left > 0]) <= size:
                _add(after, tuple([left - 1 if left > 0 else left for left in state]), many)
        counts = after
    return sum([counts[state] for state in counts])


def _begun(counts, job, length, pair, moment):
    """The counts after a job has begun at a moment or not; it must at the last one of its pair."""
    if not pair[0] <= moment <= pair[1]:
        return counts
    after = {}
    for state, many in counts.items():
        waits = state[job] == WAITS
        if waits:
            _add(after, state[:job] + (length,) + state[job + 1:], many)
        if not waits or moment < pair[1]:
            _add(after, state, many)
    return after


COUNTERS = {
    "table": _count_table,
    "sum": _count_sums,
    "either": _count_sums,
    "unlike": _count_unlike,
    "round": _count_round,
    "bench": _count_bench,
    "room": _count_room,
}
