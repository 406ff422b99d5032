"""Rows (coefficients, equal, bound) over integers, and what follows from one row alone."""

from math import gcd, lcm

from paperbest.errors import Refused


def common_divisor(integers):
    """The greatest number that divides all integers; 0 if all are 0."""
    shared = 0
    for integer in integers:
        shared = gcd(shared, integer)
        if shared == 1:
            return 1
    return shared


def total_of(coefficients, integers):
    """The sum of the coefficients times the integers."""
    total = 0
    for coefficient, integer in zip(coefficients, integers):
        if coefficient != 0:
            total += coefficient * integer
    return total


def slim_row(row):
    """The row divided by the greatest number that divides its integers."""
    coefficients, equal, bound = row
    shared = gcd(common_divisor(coefficients), bound)
    return (tuple([item // shared for item in coefficients]), equal, bound // shared)


def tight_row(row):
    """The row that stands for all rows that the same integers keep."""
    coefficients, equal, bound = row
    shared = common_divisor(coefficients)
    if not equal:
        return (tuple([item // shared for item in coefficients]), False, -(-bound // shared))
    if bound % shared != 0:
        return ((2,) + (0,) * (len(coefficients) - 1), True, 1)
    if _first_size(coefficients) < 0:
        shared = -shared
    return (tuple([item // shared for item in coefficients]), True, bound // shared)


def row_of(coefficients, sense, bound):
    """The slim row of fractions and a sign."""
    if not any([item[0] != 0 for item in coefficients]):
        raise Refused("zero")
    factor = bound[1]
    for item in coefficients:
        factor = lcm(factor, item[1])
    if sense == "<=":
        factor = -factor
    integers = tuple([item[0] * factor // item[1] for item in coefficients])
    return slim_row((integers, sense == "=", bound[0] * factor // bound[1]))


def opposite_row(row):
    """The row with all signs changed."""
    coefficients, equal, bound = row
    return (tuple([-item for item in coefficients]), equal, -bound)


def sides_of(row):
    """The rows that are not equal and together say the same."""
    coefficients, equal, bound = row
    if not equal:
        return (row,)
    side = (coefficients, False, bound)
    return (side, opposite_row(side))


def row_follows(one, other):
    """Whether all integers that keep one row keep the other one."""
    first, second = tight_row(one), tight_row(other)
    if first == second or _has_no_integers(first):
        return True
    if second[1]:
        return False
    if first[0] == second[0]:
        return first[2] >= second[2]
    if first[1] and opposite_row(first)[0] == second[0]:
        return -first[2] >= second[2]
    return False


def parting_point(one, other):
    """Some integers that keep one row and not the other one, or None."""
    kept = tight_row(one)
    if _has_no_integers(kept):
        return None
    start = _integers_on(kept[0], kept[2])
    if _breaks(other, start):
        return start
    for way in _ways_along(kept):
        slope = total_of(other[0], way)
        if slope == 0:
            continue
        if other[1]:
            return _gone(start, way, 1)
        if slope < 0:
            spare = total_of(other[0], start) - other[2]
            return _gone(start, way, spare // -slope + 1)
    return None


def _first_size(coefficients):
    """The first coefficient other than 0."""
    for item in coefficients:
        if item != 0:
            return item
    return 0


def _has_no_integers(tight):
    # A tight row has coefficients with a common divisor only for this one reason.
    return common_divisor(tight[0]) != 1


def _breaks(row, integers):
    total = total_of(row[0], integers)
    return total != row[2] if row[1] else total < row[2]


def _gone(start, way, times):
    return tuple([at + times * step for at, step in zip(start, way)])


def _integers_on(coefficients, bound):
    """Integers whose sum is the bound; the coefficients have no common divisor."""
    shared = 0
    shares = []
    for item in coefficients:
        shared, before, now = _shares_of(shared, item)
        shares = [share * before for share in shares] + [now]
    return tuple([share * bound for share in shares])


def _shares_of(one, other):
    """The greatest common divisor, and how often each of the two is in it."""
    rest, next_rest = one, other
    first, next_first = 1, 0
    second, next_second = 0, 1
    while next_rest != 0:
        times = rest // next_rest
        rest, next_rest = next_rest, rest - times * next_rest
        first, next_first = next_first, first - times * next_first
        second, next_second = next_second, second - times * next_second
    if rest < 0:
        return (-rest, -first, -second)
    return (rest, first, second)


def _ways_along(row):
    """Ways in which integers that meet the bound may go on, so many that one leads out if any does."""
    coefficients, equal, _ = row
    first = _first_place(coefficients)
    ways = []
    for at, item in enumerate(coefficients):
        if at == first:
            continue
        shared = gcd(coefficients[first], item)
        way = [0] * len(coefficients)
        way[first] = item // shared
        way[at] = -coefficients[first] // shared
        ways.append(tuple(way))
        ways.append(tuple([-step for step in way]))
    if not equal:
        way = [0] * len(coefficients)
        way[first] = 1 if coefficients[first] > 0 else -1
        ways.append(tuple(way))
    return ways


def _first_place(coefficients):
    """The place of the first coefficient other than 0."""
    for at, item in enumerate(coefficients):
        if item != 0:
            return at
    return None
