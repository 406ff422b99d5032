"""What shows that a point keeps a wish, or that it does not."""

from paperbest.benches import jobs_of, size_of
from paperbest.hours import peak, running
from paperbest.numbers import is_number, is_whole
from paperbest.points import keeps_wish
from paperbest.rooms import job_spans
from paperbest.rows import total_of
from paperbest.wishes import is_integers, is_places


def shown(wish, point):
    """A pair of the truth whether a point keeps a wish, and what shows it."""
    kept = keeps_wish(wish, point)
    finder = FINDERS[wish[0]]
    return (kept, finder(wish, point, kept))


def is_shown(wish, point, value):
    """Whether any value is such a pair."""
    if not isinstance(value, tuple) or len(value) != 2 or not isinstance(value[0], bool):
        return False
    test = TESTS[wish[0]]
    return test(wish, point, value[0], value[1])


def _total(wish, point):
    return total_of(wish[1], point)


def _find_sum(wish, point, kept):
    return _total(wish, point)


def _shows_sum(wish, point, kept, value):
    return is_whole(value) and value == _total(wish, point) and kept == keeps_wish(wish, point)


def _find_unlike(wish, point, kept):
    ordered = sorted(wish[1], key=lambda place: (point[place], place))
    if kept:
        return tuple(ordered)
    for one, other in zip(ordered, ordered[1:]):
        if point[one] == point[other]:
            return (one, other)
    return None


def _shows_unlike(wish, point, kept, value):
    if not is_places(value, len(point)) or any([place not in wish[1] for place in value]):
        return False
    if not kept:
        return len(value) == 2 and value[0] < value[1] and point[value[0]] == point[value[1]]
    return len(value) == len(wish[1]) and all([point[one] < point[other] for one, other in zip(value, value[1:])])


def _table_number(wish, point):
    """The number of the lots that are less than the values, which is that of the lot that they are, if they are one."""
    values = tuple([point[place] for place in wish[1]])
    return len([lot for lot in wish[2] if lot < values])


def _find_table(wish, point, kept):
    return _table_number(wish, point)


def _shows_table(wish, point, kept, value):
    return is_whole(value) and value == _table_number(wish, point) and kept == keeps_wish(wish, point)


def _find_either(wish, point, kept):
    if not kept:
        return tuple([_total(item, point) for item in wish[1]])
    for at, item in enumerate(wish[1]):
        if keeps_wish(item, point):
            return at
    return None


def _shows_either(wish, point, kept, value):
    if kept:
        return is_number(value) and value < len(wish[1]) and keeps_wish(wish[1][value], point)
    if not is_integers(value, len(wish[1])) or keeps_wish(wish, point):
        return False
    return value == tuple([_total(item, point) for item in wish[1]])


def _find_bench(wish, point, kept):
    starts = [point[place] for place, _, _ in jobs_of(wish)]
    ordered = sorted(range(len(starts)), key=lambda job: (starts[job], job))
    if kept:
        return tuple(ordered)
    for one, other in zip(ordered, ordered[1:]):
        if _overlap(wish, point, one, other):
            return (min(one, other), max(one, other))
    return None


def _overlap(wish, point, one, other):
    """Whether two jobs run at one moment."""
    spans = job_spans(wish, point)
    return spans[one][0] < spans[other][1] and spans[other][0] < spans[one][1]


def _shows_bench(wish, point, kept, value):
    if not is_places(value, len(wish[1])):
        return False
    if not kept:
        return len(value) == 2 and value[0] < value[1] and _overlap(wish, point, value[0], value[1])
    spans = job_spans(wish, point)
    if len(value) != len(spans):
        return False
    return all([spans[one][1] <= spans[other][0] for one, other in zip(value, value[1:])])


def _needs_at(wish, point, moment):
    return sum([jobs_of(wish)[job][2] for job in running(wish, point, moment)])


def _find_room(wish, point, kept):
    if not kept:
        return peak(wish, point)[0]
    return tuple([_needs_at(wish, point, point[place]) for place, _, _ in jobs_of(wish)])


def _shows_room(wish, point, kept, value):
    if not kept:
        return is_whole(value) and _needs_at(wish, point, value) > size_of(wish)
    if not is_integers(value, len(wish[1])) or not keeps_wish(wish, point):
        return False
    return value == _find_room(wish, point, True)


def _find_round(wish, point, kept):
    """The indices led through until one comes again, from this one on; or an index with a value that is none."""
    values = [point[place] for place in wish[1]]
    seen = []
    at = 0
    while at not in seen:
        seen.append(at)
        if not 0 <= values[at] < len(values):
            return at
        at = values[at]
    return tuple(seen[seen.index(at):])


def _shows_round(wish, point, kept, value):
    values = [point[place] for place in wish[1]]
    if not kept and is_number(value) and value < len(values):
        return not 0 <= values[value] < len(values)
    if not is_places(value, len(values)) or not value or len(set(value)) < len(value):
        return False
    if any([values[one] != other for one, other in zip(value, value[1:] + value[:1])]):
        return False
    return kept == (len(value) == len(values))


FINDERS = {
    "sum": _find_sum,
    "unlike": _find_unlike,
    "table": _find_table,
    "either": _find_either,
    "bench": _find_bench,
    "room": _find_room,
    "round": _find_round,
}
TESTS = {
    "sum": _shows_sum,
    "unlike": _shows_unlike,
    "table": _shows_table,
    "either": _shows_either,
    "bench": _shows_bench,
    "room": _shows_room,
    "round": _shows_round,
}
