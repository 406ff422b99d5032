"""Exact tableaus: places that are sums of others, with ends and values."""

from math import gcd, lcm

from paperbest.errors import InvalidNumber, Refused
from paperbest.numbers import added, fraction_of, is_fraction, is_less, is_number, is_whole, taken, weighed, whole


class Tableau:
    """Unknowns and sums of rows; those in the basis are sums of the columns.

    A row of the basis is kept as (bottom, tops): its entries are the tops divided by the bottom, one for
    each slot, and these integers have no common divisor.
    """

    def __init__(self, rows, box):
        self._many = len(box)
        self._lows = [whole(low) for low, _ in box]
        self._highs = [whole(high) for _, high in box]
        self._now = [whole(min(max(low, 0), high)) for low, high in box]
        self._slots = {place: place for place in range(len(box))}
        self._columns = tuple(range(len(box)))
        self._rows = {}
        self._basis = ()
        self._puts = []
        for row in rows:
            self.add_row(row)

    @property
    def many(self):
        """The number of unknowns."""
        return self._many

    @property
    def places(self):
        """The number of places."""
        return len(self._now)

    @property
    def basis(self):
        """The lot of the places that are sums of the columns."""
        return self._basis

    @property
    def columns(self):
        """The lot of the other places."""
        return self._columns

    def ends(self, place):
        """The low and the high end of a place, each a fraction or None."""
        self._check_place(place)
        return (self._lows[place], self._highs[place])

    def value(self, place):
        """The value that a place has now."""
        self._check_place(place)
        return self._now[place]

    def point(self):
        """The values of the unknowns."""
        return tuple(self._now[:self._many])

    def entry(self, place, column):
        """How often a column is in a place of the basis."""
        self._check_entry(place, column)
        bottom, tops = self._rows[place]
        return fraction_of(tops[self._slots[column]], bottom)

    def row_at(self, place):
        """The columns of a place of the basis with their entries other than 0."""
        if not is_whole(place) or place not in self._rows:
            raise Refused("basis")
        bottom, tops = self._rows[place]
        row = {}
        for column in self._columns:
            top = tops[self._slots[column]]
            if top != 0:
                row[column] = fraction_of(top, bottom)
        return row

    def exchange(self, place, column):
        """Take a place out of the basis and a column into it."""
        self._check_entry(place, column)
        slot = self._slots[column]
        if self._rows[place][1][slot] == 0:
            raise Refused("zero")
        solved = _solved(self._rows[place], slot)
        rows = {column: solved}
        for other in self._basis:
            if other != place:
                rows[other] = _replaced(self._rows[other], slot, solved)
        self._rows = rows
        del self._slots[column]
        self._slots[place] = slot
        self._basis = tuple(sorted(self._rows))
        self._columns = tuple(sorted(self._slots))
        self._bring_within(place)

    def move(self, column, value):
        """Give a column a value within its ends."""
        if not is_whole(column) or column not in self._slots:
            raise Refused("column")
        if not is_fraction(value):
            raise InvalidNumber("value")
        low, high = self._lows[column], self._highs[column]
        if (low is not None and is_less(value, low)) or (high is not None and is_less(high, value)):
            raise Refused("ends")
        self._shift(column, value)

    def put_end(self, place, side, value):
        """Replace the low (0) or high (1) end of a place by a fraction or None."""
        self._check_place(place)
        if not is_whole(side) or side not in (0, 1):
            raise InvalidNumber("side")
        if value is not None and not is_fraction(value):
            raise InvalidNumber("value")
        low, high = self.ends(place)
        if side == 0:
            low = value
        else:
            high = value
        if low is not None and high is not None and is_less(high, low):
            raise Refused("crossed")
        self._puts.append((place, side, self.ends(place)[side]))
        self._set_end(place, side, value)

    def mark(self):
        """How many ends have been put and not been taken back."""
        return len(self._puts)

    def back(self, mark):
        """Take ends back, the last one first, until so many are left."""
        if not is_number(mark) or mark > len(self._puts):
            raise InvalidNumber("mark")
        while len(self._puts) > mark:
            place, side, value = self._puts.pop()
            self._set_end(place, side, value)

    def add_row(self, row):
        """Add a row, and return the place of its sum, which is in the basis."""
        coefficients, equal, bound = row
        place = len(self._now)
        self._rows[place] = self._in_columns(coefficients)
        self._now.append(weighed(coefficients, self.point()))
        self._lows.append(whole(bound))
        self._highs.append(whole(bound) if equal else None)
        self._basis = tuple(sorted(self._rows))
        return place

    def _check_place(self, place):
        if not is_number(place) or place >= len(self._now):
            raise InvalidNumber("place")

    def _check_entry(self, place, column):
        if not is_whole(place) or place not in self._rows:
            raise Refused("basis")
        if not is_whole(column) or column not in self._slots:
            raise Refused("column")

    def _in_columns(self, coefficients):
        """A sum of the unknowns as a row over the columns."""
        bottom, tops = 1, [0] * self._many
        for at, times in enumerate(coefficients):
            if times == 0:
                continue
            if at in self._slots:
                tops[self._slots[at]] += times * bottom
                continue
            row_bottom, row = self._rows[at]
            shared = lcm(bottom, row_bottom)
            own, others = shared // bottom, times * (shared // row_bottom)
            tops = [top * own + item * others for top, item in zip(tops, row)]
            bottom = shared
        return _slim(bottom, tops)

    def _set_end(self, place, side, value):
        if side == 0:
            self._lows[place] = value
        else:
            self._highs[place] = value
        if place in self._slots:
            self._bring_within(place)

    def _bring_within(self, column):
        """Give a column that is beyond an end this end as its value."""
        low, high, value = self._lows[column], self._highs[column], self._now[column]
        if low is not None and is_less(value, low):
            self._shift(column, low)
        elif high is not None and is_less(high, value):
            self._shift(column, high)

    def _shift(self, column, value):
        change = taken(value, self._now[column])
        self._now[column] = value
        if change[0] == 0:
            return
        slot = self._slots[column]
        for place in self._basis:
            bottom, tops = self._rows[place]
            if tops[slot] != 0:
                more = fraction_of(change[0] * tops[slot], change[1] * bottom)
                self._now[place] = added(self._now[place], more)


def _solved(row, slot):
    """The row of the column in a slot, when the place of this row takes the slot."""
    bottom, tops = row
    pivot = tops[slot]
    sign = 1 if pivot > 0 else -1
    solved = [-sign * top for top in tops]
    solved[slot] = sign * bottom
    return (abs(pivot), solved)


def _replaced(row, slot, solved):
    """A row in which the column in a slot is replaced by the sum that it is now."""
    bottom, tops = row
    times = tops[slot]
    if times == 0:
        return row
    other_bottom, others = solved
    shared = gcd(times, other_bottom)
    times, other_bottom = times // shared, other_bottom // shared
    changed = [top * other_bottom + times * other for top, other in zip(tops, others)]
    changed[slot] = times * others[slot]
    return _slim(bottom * other_bottom, changed)


def _slim(bottom, tops):
    """The same row with integers that have no common divisor."""
    shared = bottom
    for top in tops:
        if shared == 1:
            return (bottom, tops)
        shared = gcd(shared, top)
    if shared == 1:
        return (bottom, tops)
    return (bottom // shared, [top // shared for top in tops])
