"""Wishes: which values are some, what they name, and their normal form."""

from paperbest.numbers import is_whole
from paperbest.rows import row_follows, tight_row

MOST_SUMS = 6


def is_wish(value, size):
    """Whether any value is a wish for so many unknowns."""
    if not isinstance(value, tuple) or not value or not isinstance(value[0], str):
        return False
    if value[0] not in WISH_TESTS:
        return False
    test = WISH_TESTS[value[0]]
    return test(value, size)


def is_lot_of_places(value, size):
    """Whether any value is an ascending tuple of numbers of unknowns without duplicates."""
    if not is_places(value, size):
        return False
    return all([one < other for one, other in zip(value, value[1:])])


def is_places(value, size):
    """Whether any value is a tuple of numbers of unknowns."""
    if not isinstance(value, tuple):
        return False
    return all([is_whole(item) and 0 <= item < size for item in value])


def is_integers(value, many):
    """Whether any value is a tuple of so many integers."""
    if not isinstance(value, tuple) or len(value) != many:
        return False
    return all([is_whole(item) for item in value])


def _is_sum(value, size):
    if len(value) != 4 or value[0] != "sum":
        return False
    _, coefficients, equal, bound = value
    if not is_integers(coefficients, size) or not any([item != 0 for item in coefficients]):
        return False
    return isinstance(equal, bool) and is_whole(bound)


def _is_unlike(value, size):
    """Also for a round, which has the same parts."""
    return len(value) == 2 and is_lot_of_places(value[1], size) and len(value[1]) >= 2


def _is_table(value, size):
    if len(value) != 3:
        return False
    _, places, lots = value
    if not is_places(places, size) or not places or len(set(places)) < len(places):
        return False
    if not isinstance(lots, tuple) or not lots:
        return False
    if not all([is_integers(lot, len(places)) for lot in lots]):
        return False
    return all([one < other for one, other in zip(lots, lots[1:])])


def _is_either(value, size):
    if len(value) != 2 or not isinstance(value[1], tuple) or not 2 <= len(value[1]) <= MOST_SUMS:
        return False
    for item in value[1]:
        if not isinstance(item, tuple) or not item or not isinstance(item[0], str):
            return False
        if not _is_sum(item, size) or item[2]:
            return False
    return True


def _is_bench(value, size):
    return len(value) == 2 and _is_jobs(value[1], size, 2)


def _is_room(value, size):
    if len(value) != 3 or not _is_jobs(value[1], size, 3) or not is_whole(value[2]):
        return False
    return all([job[2] <= value[2] for job in value[1]])


def _is_jobs(value, size, many):
    """Whether any value is two or more jobs with so many items, their places a lot."""
    if not isinstance(value, tuple) or len(value) < 2:
        return False
    if not all([is_integers(job, many) for job in value]):
        return False
    if not is_lot_of_places(tuple([job[0] for job in value]), size):
        return False
    return all([item >= 1 for job in value for item in job[1:]])


WISH_TESTS = {
    "sum": _is_sum,
    "unlike": _is_unlike,
    "table": _is_table,
    "either": _is_either,
    "bench": _is_bench,
    "room": _is_room,
    "round": _is_unlike,
}


def sum_wish(row):
    """The wish that a row is."""
    coefficients, equal, bound = row
    return ("sum", coefficients, equal, bound)


def named_by(wish):
    """The lot of the unknowns that a wish names."""
    if wish[0] == "sum":
        return tuple([at for at, item in enumerate(wish[1]) if item != 0])
    if wish[0] == "either":
        return tuple(sorted(set([at for item in wish[1] for at in named_by(item)])))
    if wish[0] in ("bench", "room"):
        return tuple([job[0] for job in wish[1]])
    return tuple(sorted(wish[1]))


def normal_wishes(wishes):
    """Wishes that say the same, in normal form, ascending and without duplicates."""
    normal = []
    for wish in wishes:
        changed = _normal_wish(wish)
        if changed is not None:
            normal.append(changed)
    normal = sorted(set(normal))
    sums = [wish for wish in normal if wish[0] == "sum"]
    return tuple([wish for wish in normal if not _is_said(wish, sums)])


def _normal_wish(wish):
    """The normal form of a wish by itself; None if every point keeps it."""
    if wish[0] == "sum":
        return sum_wish(tight_row(wish[1:]))
    if wish[0] == "table":
        return _normal_table(wish)
    if wish[0] == "either":
        return _normal_either(wish)
    if wish[0] == "room" and sum([job[2] for job in wish[1]]) <= wish[2]:
        return None
    return wish


def _normal_table(wish):
    _, places, lots = wish
    turn = sorted(range(len(places)), key=lambda at: places[at])
    changed = [_taken_at(lot, turn) for lot in lots]
    return ("table", _taken_at(places, turn), tuple(sorted(changed)))


def _taken_at(items, places):
    return tuple([items[place] for place in places])


def _normal_either(wish):
    sums = sorted(set([sum_wish(tight_row(item[1:])) for item in wish[1]]))
    left = [item for item in sums if not any([_says(item, other) for other in sums])]
    return left[0] if len(left) == 1 else ("either", tuple(left))


def _says(one, other):
    """Whether one sum is another one than the other, and this follows from it."""
    return one != other and row_follows(one[1:], other[1:])


def _is_said(wish, sums):
    """Whether a normal wish follows from one of the sums."""
    if wish[0] == "sum":
        return any([_says(other, wish) for other in sums])
    if wish[0] == "either":
        return any([row_follows(other[1:], item[1:]) for other in sums for item in wish[1]])
    return False
