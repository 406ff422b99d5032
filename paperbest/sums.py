"""Multipliers: what sums, cuts and ends give, each times a fraction."""

from paperbest.errors import InvalidPaper
from paperbest.numbers import added, is_fraction, is_whole, timed, weighed, whole

END_WORDS = ("low", "high")
NO = (0, 1)


def summed(task, cuts, box, multipliers):
    """The fractions for the unknowns and the bound that multipliers give."""
    total = [NO] * len(task.unknowns)
    bound = NO
    for key, times in multipliers:
        word, at = key
        if word in END_WORDS:
            sign = 1 if word == "low" else -1
            end = box[at][END_WORDS.index(word)]
            total[at] = added(total[at], timed(whole(sign), times))
            bound = added(bound, timed(whole(sign * end), times))
            continue
        coefficients, _, row_bound = row_behind(task, cuts, key)
        for place, item in enumerate(coefficients):
            if item != 0:
                total[place] = added(total[place], timed(whole(item), times))
        bound = added(bound, timed(whole(row_bound), times))
    return (tuple(total), bound)


def row_behind(task, cuts, key):
    """The row that the key of a sum or of a cut names."""
    word, at = key
    if word == "cut":
        return cuts[at]
    return task.wishes[at][1:]


def above_key(task, cuts, box, point, key):
    """How far fractions are above what a key stands for."""
    word, at = key
    if word == "low":
        return added(point[at], whole(-box[at][0]))
    if word == "high":
        return added(whole(box[at][1]), timed(whole(-1), point[at]))
    coefficients, _, bound = row_behind(task, cuts, key)
    return added(weighed(coefficients, point), whole(-bound))


def check_multipliers(task, cuts, box, value):
    """Raise InvalidPaper if any value is not multipliers over these sums, cuts and ends."""
    if not isinstance(value, tuple):
        raise InvalidPaper(-1)
    before = None
    for at, item in enumerate(value):
        if not _is_pair(task, cuts, item):
            raise InvalidPaper(at)
        if before is not None and item[0] <= before:
            raise InvalidPaper(at)
        before = item[0]


def are_multipliers(task, cuts, box, value):
    """Whether any value is multipliers over these sums, cuts and ends."""
    try:
        check_multipliers(task, cuts, box, value)
    except InvalidPaper:
        return False
    return True


def _is_pair(task, cuts, value):
    if not isinstance(value, tuple) or len(value) != 2:
        return False
    key, times = value
    if not _is_key(task, cuts, key) or not is_fraction(times):
        return False
    if key[0] == "row" and task.wishes[key[1]][2]:
        return times[0] != 0
    return times[0] > 0


def _is_key(task, cuts, value):
    if not isinstance(value, tuple) or len(value) != 2:
        return False
    word, at = value
    if not isinstance(word, str) or not is_whole(at) or at < 0:
        return False
    if word == "row":
        return at < len(task.wishes) and task.wishes[at][0] == "sum"
    if word == "cut":
        return at < len(cuts)
    return word in END_WORDS and at < len(task.unknowns)


def multipliers_of(table):
    """The multipliers of a dict from keys to fractions; those of 0 are left out."""
    return tuple([(key, table[key]) for key in sorted(table) if table[key][0] != 0])


def joined_multipliers(one, other, many):
    """The fractions of equal keys added, those of the other ones times a fraction."""
    table = {}
    for key, times in one:
        table[key] = times
    for key, times in other:
        table[key] = added(table.get(key, NO), timed(times, many))
    return multipliers_of(table)


def put_for(multipliers, key, other):
    """Other multipliers put in the place of a key, as often as it stands there."""
    many = NO
    rest = []
    for pair in multipliers:
        if pair[0] == key:
            many = pair[1]
        else:
            rest.append(pair)
    return joined_multipliers(tuple(rest), other, many)
