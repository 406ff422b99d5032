"""Points 36 and 37: mending and steps."""

import itertools
import unittest
from fractions import Fraction

from paperbest.steps import (
    fitting_place, holding_ends, mend_place, place_beyond, room_for, slopes_of, step_along)
from paperbest.tableau import Tableau
from tests.plain_tableau import is_beyond, made_rows, state_of
from tests.tools import fraction, generator, made_box, pair

BIG = 10 ** 6


def made_tableau(rng, many=None, rows=None):
    """Some tableau, perhaps with ends that were put and places that were exchanged."""
    many = rng.randint(1, 4) if many is None else many
    made = made_rows(rng, many, rng.randint(0, 5) if rows is None else rows)
    table = Tableau(made, made_box(rng, many, -4, 3, 5))
    for _ in range(rng.randint(0, 6)):
        place, side = rng.randrange(table.places), rng.randint(0, 1)
        value = rng.choice((None, Fraction(rng.randint(-9, 9), rng.randint(1, 3))))
        other = table.ends(place)[1 - side]
        if value is None or other is None or (value <= fraction(other) if side == 0 else value >= fraction(other)):
            table.put_end(place, side, None if value is None else pair(value))
    for _ in range(rng.randint(0, 4)):
        if table.basis:
            place, column = rng.choice(table.basis), rng.choice(table.columns)
            if table.entry(place, column)[0]:
                table.exchange(place, column)
    for column in table.columns:
        low, high = table.ends(column)
        if low is not None and high is not None and rng.random() < 0.5:
            table.move(column, pair((fraction(low) + fraction(high)) / 2))
    return table


def free(table, column, sign):
    """Whether a column can be moved up or down within its ends."""
    end = table.ends(column)[1 if sign > 0 else 0]
    return end is None or (fraction(end) - fraction(table.value(column))) * sign > 0


def plain_fitting(table, place, side):
    for column in table.columns:
        for sign in (1, -1):
            nearer = fraction(table.entry(place, column)) * sign * (1 if side == 0 else -1)
            if nearer > 0 and free(table, column, sign):
                return column
    return None


def plain_room(table, column, sign):
    """The room of a column, and what stops it, by the distances to all ends."""
    rooms = []
    for place in range(table.places):
        if place != column and place in table.columns:
            continue
        rate = Fraction(sign) if place == column else fraction(table.entry(place, column)) * sign
        value = fraction(table.value(place))
        low, high = table.ends(place)
        if rate > 0 and high is not None and value <= fraction(high):
            rooms.append(((fraction(high) - value) / rate, place))
        if rate < 0 and low is not None and value >= fraction(low):
            rooms.append(((fraction(low) - value) / rate, place))
    if not rooms:
        return (None, None)
    length, place = min(rooms)
    return (pair(length), place)


class MendingTest(unittest.TestCase):
    def test_place_beyond(self):
        table = Tableau((((1, 1), False, 2), ((1, -1), True, 0), ((1, 0), False, -5)), ((0, 5), (0, 5)))
        self.assertEqual(place_beyond(tableau=table), (2, 0))
        table.move(0, (2, 1))
        self.assertEqual(place_beyond(table), (3, 1))
        table.move(1, (2, 1))
        self.assertIsNone(place_beyond(table))
        rng = generator(36)
        for _ in range(300):
            table = made_tableau(rng)
            beyond = [(place, is_beyond(table, place)) for place in table.basis if is_beyond(table, place) is not None]
            self.assertEqual(place_beyond(table), beyond[0] if beyond else None)

    def test_fitting_and_holding(self):
        rng = generator(37)
        held = 0
        for _ in range(600):
            table = made_tableau(rng)
            before = state_of(table)
            for place in table.basis:
                side = is_beyond(table, place)
                if side is None:
                    continue
                column = plain_fitting(table, place, side)
                self.assertEqual(fitting_place(tableau=table, place=place, side=side), column)
                if column is None:
                    held += 1
                    self.check_holding(table, place, side)
                    self.assertIsNone(mend_place(table, place, side))
                self.assertEqual(state_of(table), before)
        self.assertGreater(held, 60)

    def check_holding(self, table, place, side):
        told = holding_ends(tableau=table, place=place, side=side)
        self.assertEqual(list(told), sorted(told))
        self.assertEqual(dict(told)[(place, side)], (1, 1))
        wanted = {place} | {column for column in table.columns if table.entry(place, column)[0]}
        self.assertEqual({end[0] for end, _ in told}, wanted)
        bound, form = Fraction(0), {column: Fraction(0) for column in table.columns}
        for (at, one), times in told:
            self.assertGreater(times[0], 0)
            if at != place:
                self.assertEqual(times, pair(abs(fraction(table.entry(place, at)))))
                self.assertEqual(table.value(at), table.ends(at)[one])
            sign = 1 if one == 0 else -1
            bound += fraction(times) * sign * fraction(table.ends(at)[one])
            row = {at: (1, 1)} if at in table.columns else table.row_at(at)
            for column, entry in row.items():
                form[column] += fraction(times) * sign * fraction(entry)
        self.assertEqual(set(form.values()) | {0}, {0})
        self.assertGreater(bound, 0)

    def test_mend_place(self):
        rng = generator(38)
        for _ in range(400):
            table = made_tableau(rng)
            beyond = place_beyond(table)
            if beyond is None:
                continue
            place, side = beyond
            column, basis = fitting_place(table, place, side), table.basis
            end = table.ends(place)[side]
            if column is None:
                continue
            self.assertEqual(mend_place(tableau=table, place=place, side=side), column)
            self.assertEqual(set(table.basis), set(basis) - {place} | {column})
            self.assertEqual(table.value(place), end)

    def test_it_ends(self):
        rng = generator(39)
        for _ in range(300):
            table = made_tableau(rng)
            most = (3 ** table.places - 1) // 2
            for _ in range(min(most, 2000) + 1):
                beyond = place_beyond(table)
                if beyond is None or mend_place(table, *beyond) is None:
                    break
            else:
                self.fail("it does not end")

    def test_many_places_meet(self):
        """All rows go through one point, and all bounds are alike."""
        rows = tuple((signs, False, 0) for signs in itertools.product((-1, 1), repeat=4))
        table = Tableau(rows, ((-1, 1),) * 4)
        table.put_end(0, 0, (1, 2))
        for _ in range(10 ** 4):
            beyond = place_beyond(table)
            if beyond is None or mend_place(table, *beyond) is None:
                break
        self.assertIsNotNone(beyond)
        self.check_holding(table, *beyond)


class StepsTest(unittest.TestCase):
    def test_room_edges(self):
        table = Tableau((((1, 1), False, 2), ((1, -1), True, 0), ((-2, 0), False, -9)), ((0, 5), (0, 5)))
        # The second row is at its only end, so there is no room.
        self.assertEqual(room_for(tableau=table, column=0, sign=1), ((0, 1), 3))
        table.put_end(3, 0, None)
        table.put_end(3, 1, None)
        self.assertEqual(room_for(table, 0, 1), ((9, 2), 4))
        self.assertEqual(room_for(table, 0, -1), ((0, 1), 0))
        self.assertEqual(room_for(table, 1, 1), ((5, 1), 1))
        table.put_end(1, 1, None)
        self.assertEqual(room_for(table, 1, 1), (None, None))
        # A place that is beyond its low end stops at its high end.
        table.put_end(2, 1, (3, 1))
        self.assertEqual(room_for(table, 1, 1), ((3, 1), 2))
        # One that is beyond an end may go further.
        table.put_end(2, 0, None)
        table.put_end(2, 1, (-1, 1))
        self.assertEqual(room_for(table, 1, 1), (None, None))

    def test_first_of_several(self):
        table = Tableau((((1, 1), False, 0), ((-1, 0), False, -5)), ((0, 5), (0, 5)))
        self.assertEqual(room_for(table, 0, 1), ((5, 1), 0))
        table = Tableau((((-1, 0), False, -4), ((0, -1), False, -9), ((-2, 0), False, -8)), ((0, 5), (0, 5)))
        self.assertEqual(room_for(table, 0, 1), ((4, 1), 2))

    def test_room_against_distances(self):
        rng = generator(40)
        endless = 0
        for _ in range(600):
            table = made_tableau(rng)
            for column, sign in itertools.product(table.columns, (1, -1)):
                told = plain_room(table, column, sign)
                endless += told == (None, None)
                self.assertEqual(room_for(table, column, sign), told)
        self.assertGreater(endless, 40)

    def test_step_along(self):
        rng = generator(41)
        exchanged = 0
        for _ in range(500):
            table = made_tableau(rng)
            column, sign = rng.choice(table.columns), rng.choice((1, -1))
            length, stop = room_for(table, column, sign)
            before, value = state_of(table), fraction(table.value(column))
            basis = table.basis
            beyond = [is_beyond(table, place) for place in range(table.places)]
            self.assertEqual(step_along(tableau=table, column=column, sign=sign), (length, stop))
            if length is None:
                self.assertEqual(state_of(table), before)
                continue
            self.assertEqual(fraction(table.value(column)), value + sign * fraction(length))
            self.assertIn(table.value(stop), table.ends(stop))
            if stop == column:
                self.assertEqual(table.basis, basis)
            else:
                exchanged += 1
                self.assertEqual(set(table.basis), set(basis) - {stop} | {column})
            for place in range(table.places):
                if beyond[place] is None:
                    self.assertIsNone(is_beyond(table, place))
        self.assertGreater(exchanged, 60)

    def test_slopes(self):
        table = Tableau((((1, 1), False, 2), ((1, -1), True, 0)), ((0, 5), (0, 5)))
        self.assertEqual(slopes_of(tableau=table, coefficients=(3, 0)), ((0, (3, 1)), (1, (0, 1))))
        table.exchange(2, 0)
        self.assertEqual(slopes_of(table, (3, 1)), ((1, (-2, 1)), (2, (3, 1))))
        rng = generator(42)
        for _ in range(300):
            table = made_tableau(rng)
            goal = tuple(rng.randint(-3, 3) for _ in range(table.many))
            slopes = slopes_of(table, goal)
            self.assertEqual(tuple(column for column, _ in slopes), table.columns)
            worth = sum(times * fraction(value) for times, value in zip(goal, table.point()))
            self.assertEqual(worth, sum(fraction(slope) * fraction(table.value(at)) for at, slope in slopes))
            column, sign = rng.choice(table.columns), rng.choice((1, -1))
            length, _ = step_along(table, column, sign)
            if length is not None:
                after = sum(times * fraction(value) for times, value in zip(goal, table.point()))
                self.assertEqual(after - worth, fraction(dict(slopes)[column]) * fraction(length) * sign)


if __name__ == "__main__":
    unittest.main()
