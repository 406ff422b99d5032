"""What wishes lack at a point, and the value of one unknown at which least is missed."""

from paperbest.benches import jobs_of, size_of
from paperbest.rooms import job_spans, needs_over_time
from paperbest.rows import total_of
from paperbest.wishes import named_by


def lack(wish, point):
    """What a wish lacks at a point; 0 exactly if it is kept."""
    measure = MEASURES[wish[0]]
    return measure(wish, point)


def miss(task, point):
    """What all wishes lack together."""
    return sum([lack(wish, point) for wish in task.wishes])


def _sum_lack(wish, point):
    _, coefficients, equal, bound = wish
    short = bound - total_of(coefficients, point)
    return abs(short) if equal else max(short, 0)


def _either_lack(wish, point):
    return min([_sum_lack(item, point) for item in wish[1]])


def _unlike_lack(wish, point):
    return len(wish[1]) - len(set([point[place] for place in wish[1]]))


def _table_lack(wish, point):
    values = [point[place] for place in wish[1]]
    return min([_unlike_items(lot, values) for lot in wish[2]])


def _unlike_items(lot, values):
    return sum([1 for item, value in zip(lot, values) if item != value])


def _jobs_lack(wish, point):
    """How much more than the size is needed, added up over all moments."""
    size = size_of(wish)
    needs = needs_over_time(job_spans(wish, point))
    return sum([(after[0] - now[0]) * max(now[1] - size, 0) for now, after in zip(needs, needs[1:])])


def _round_lack(wish, point):
    """How many must be changed.

    Those that lead to some one can stay if no two lead to the same one, and no ring is closed too early:
    what is left are paths, and paths can be joined to a round. A ring into which another one leads can
    be opened by keeping this one.
    """
    many = len(wish[1])
    leads = {}
    for at, place in enumerate(wish[1]):
        if 0 <= point[place] < many:
            leads[at] = point[place]
    rings = [at for at in leads if _closes_ring(leads, at)]
    targets = len(set(list(leads.values())))
    if len(rings) == 1 and targets == many:
        return 0
    return many - targets + len(rings)


def _closes_ring(leads, first):
    """Whether an index is the least one of a ring into which no other index leads."""
    at = first
    for _ in range(len(leads)):
        at = leads.get(at)
        if at is None or at < first or len([1 for lead in list(leads.values()) if lead == at]) > 1:
            return False
        if at == first:
            return True
    return False


MEASURES = {
    "sum": _sum_lack,
    "either": _either_lack,
    "unlike": _unlike_lack,
    "table": _table_lack,
    "bench": _jobs_lack,
    "room": _jobs_lack,
    "round": _round_lack,
}


def best_value(task, box, point, at):
    """The value of an unknown within its pair at which least is missed, then the worth is least."""
    own = point[at]
    missed = missed_at(task, box[at], point, at)
    best = None
    for value in sorted(missed):
        rank = (missed[value], task.goal[at] * value, abs(value - own), value)
        if best is None or rank < best:
            best = rank
    return best[3]


def missed_at(task, pair, point, at):
    """What the wishes that name an unknown lack, at all its values that may be the best one.

    Between the values at which it is looked, what a wish lacks rises or falls evenly; so, of all values
    with the least miss, the ends of their stretches are among those looked at.
    """
    turns = {pair[0]: 0, pair[1]: 0, point[at]: 0}
    total = 0
    for wish in task.wishes:
        if at in named_by(wish):
            line = _line_of(wish, pair, point, at)
            total += line[0][1]
            _add_turns(turns, line)
    missed = {}
    slope, before = 0, pair[0]
    for value in sorted(turns):
        total += slope * (value - before)
        slope += turns[value]
        before = value
        missed[value] = total
    return missed


def _add_turns(turns, line):
    """Add by how much the rise of a line changes at each of its values."""
    rise = 0
    for (value, lacked), (after, lacked_after) in zip(line, line[1:]):
        change = (lacked_after - lacked) // (after - value) - rise
        turns[value] = turns.get(value, 0) + change
        rise += change
    # No value above the last one is looked at, so the last rise may go on.


def _line_of(wish, pair, point, at):
    """Pairs of value and lack, ascending; between two of these values the lack changes evenly."""
    if wish[0] == "table":
        return _table_line(wish, pair, point, at)
    finder = TURN_FINDERS[wish[0]]
    line = []
    for value in _within(pair, finder(wish, point, at)):
        line.append((value, lack(wish, point[:at] + (value,) + point[at + 1:])))
    return line


def _within(pair, values):
    """The ends of a pair and the values between them, ascending."""
    low, high = pair
    return sorted(set([low, high] + [value for value in values if low < value < high]))


def _table_line(wish, pair, point, at):
    """The line of a table; its lots are gone through once for all values."""
    _, places, lots = wish
    column = places.index(at)
    values = [point[place] for place in places]
    lacks = {}
    for lot in lots:
        value = lot[column]
        values[column] = value
        unlike = _unlike_items(lot, values)
        lacks[value] = min(unlike, lacks.get(value, unlike))
    most = min(list(lacks.values())) + 1
    return [(value, min(lacks.get(value, most), most)) for value in _within(pair, _beside(list(lacks)))]


def _beside(values):
    """Values with those just below and just above them."""
    return [value + step for value in values for step in (-1, 0, 1)]


def _quotients(top, bottom):
    """The integers around a quotient, none if it is divided by 0."""
    return [] if bottom == 0 else [top // bottom, -(-top // bottom)]


def _short_and_slope(item, point, at):
    """What a sum is short of its bound when the unknown is 0, and the coefficient of this."""
    _, coefficients, _, bound = item
    return (bound - total_of(coefficients, point) + coefficients[at] * point[at], coefficients[at])


def _sum_turns(wish, point, at):
    short, slope = _short_and_slope(wish, point, at)
    return _quotients(short, slope)


def _either_turns(wish, point, at):
    """Where a sum is just kept, and where two sums lack equally much."""
    lines = [_short_and_slope(item, point, at) for item in wish[1]]
    values = []
    for index, (short, slope) in enumerate(lines):
        values.extend(_quotients(short, slope))
        for other_short, other_slope in lines[:index]:
            values.extend(_quotients(short - other_short, slope - other_slope))
    return values


def _unlike_turns(wish, point, at):
    return _beside([point[place] for place in wish[1] if place != at])


def _jobs_turns(wish, point, at):
    """Where the job begins or ends just when another one begins or ends."""
    values = []
    own = [length for place, length, _ in jobs_of(wish) if place == at][0]
    for place, length, _ in jobs_of(wish):
        if place != at:
            for moment in (point[place], point[place] + length):
                values.extend([moment, moment - own])
    return values


def _round_turns(wish, point, at):
    return list(range(-1, len(wish[1]) + 1))


TURN_FINDERS = {
    "sum": _sum_turns,
    "either": _either_turns,
    "unlike": _unlike_turns,
    "bench": _jobs_turns,
    "room": _jobs_turns,
    "round": _round_turns,
}
