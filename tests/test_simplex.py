"""Points 38 to 41: points and sums, best points, repairs."""

import itertools
import math
import unittest
from fractions import Fraction

from paperbest.errors import Refused
from paperbest.simplex import (
    cheapest_place, first_gain, hold_best, keyed, most_steps, point_or_sum, repaired, to_best)
from paperbest.steps import fitting_place, holding_ends, mend_place, place_beyond, slopes_of, step_along
from paperbest.tableau import Tableau
from tests.plain_tableau import is_beyond, made_rows, solved, state_of
from tests.test_steps import free, made_tableau
from tests.tools import fraction, generator, made_box, pair, total


def corners(rows, box):
    """The corner points, as fractions of Python, of what rows (coefficients, low, high) and a box leave."""
    many = len(box)
    forms = [(tuple(int(i == at) for i in range(many)), low, high) for at, (low, high) in enumerate(box)] + list(rows)
    planes = [(form, end) for form, low, high in forms for end in (low, high) if end is not None]
    found = set()
    for chosen in itertools.combinations(planes, many):
        # The point that meets all chosen ends, if there is just one.
        columns = [[form[at] for form, _ in chosen] for at in range(many)]
        point = solved(columns, [end for _, end in chosen])
        if point is None:
            continue
        values = [(total(form, point), low, high) for form, low, high in forms]
        if all((low is None or low <= value) and (high is None or value <= high) for value, low, high in values):
            found.add(tuple(point))
    return found


def corners_of(table, rows):
    """The corner points of what the present ends of a tableau leave."""
    ends = [[None if end is None else fraction(end) for end in table.ends(place)] for place in range(table.places)]
    forms = [(row[0], low, high) for row, (low, high) in zip(rows, ends[table.many:])]
    return corners(forms, ends[:table.many])


def given(table, rows, multipliers):
    """What multipliers over a tableau give, from its present ends."""
    form, bound = [Fraction(0)] * table.many, Fraction(0)
    for (word, at), times in multipliers:
        times = fraction(times)
        if word == "row":
            ends = table.ends(table.many + at)
            row, end = rows[at][0], ends[0 if times > 0 else 1]
            bound += times * fraction(end)
        else:
            row = [int(i == at) * (1 if word == "low" else -1) for i in range(table.many)]
            bound += times * fraction(table.ends(at)[0 if word == "low" else 1]) * (1 if word == "low" else -1)
        form = [one + times * item for one, item in zip(form, row)]
    return form, bound


def check_keys(test, multipliers):
    test.assertEqual(list(multipliers), sorted(multipliers))
    test.assertEqual(len({key for key, _ in multipliers}), len(multipliers))
    for (word, _), times in multipliers:
        test.assertNotEqual(times[0], 0)
        test.assertTrue(word == "row" or times[0] > 0)


def closed_tableau(rng, most=3):
    """Some rows, and their tableau with ends for all unknowns."""
    many = rng.randint(1, most)
    rows = made_rows(rng, many, rng.randint(0, 4))
    table = Tableau(rows, made_box(rng, many, -3, 2, 4))
    for _ in range(rng.randint(0, 3)):
        at = rng.randrange(table.places)
        low, high = table.ends(at)
        if at >= many and rng.random() < 0.5:
            table.put_end(at, rng.randint(0, 1), None)
        elif high is not None and low is not None:
            table.put_end(at, 0, pair((fraction(low) + fraction(high)) / 2))
        elif low is not None:
            table.put_end(at, 1, pair(fraction(low) + rng.randint(0, 3)))
    return rows, table


def twin_of(rows, table):
    """A tableau with the same rows and ends, from the start; it may have another basis."""
    many = table.many
    twin = Tableau(rows, ((-99, 99),) * many)
    for at in range(table.places):
        low, high = table.ends(at)
        twin.put_end(at, 0, None)
        twin.put_end(at, 1, high)
        twin.put_end(at, 0, low)
    for at in range(many):
        if twin.value(at) != table.value(at):
            twin.move(at, table.value(at))
    return twin


class KeyedTest(unittest.TestCase):
    def test_keys(self):
        table = Tableau((((1, 1), False, 2), ((1, -1), True, 0)), ((0, 5), (0, 5)))
        ends = (((0, 0), (1, 2)), ((1, 1), (2, 1)), ((2, 0), (3, 1)), ((3, 1), (4, 1)))
        self.assertEqual(keyed(tableau=table, ends=ends), (
            (("high", 1), (2, 1)), (("low", 0), (1, 2)), (("row", 0), (3, 1)), (("row", 1), (-4, 1))))
        self.assertEqual(keyed(table, ()), ())
        self.assertEqual(table.add_row(((2, 1), False, 1)), 4)
        self.assertEqual(keyed(table, (((4, 0), (1, 3)),)), ((("row", 2), (1, 3)),))


class PointOrSumTest(unittest.TestCase):
    def test_steps_and_answers(self):
        rng = generator(39)
        words = []
        for _ in range(500):
            rows, table = closed_tableau(rng)
            twin = twin_of(rows, table)
            self.assertEqual(state_of(twin)[:-2], state_of(table)[:-2])
            told = point_or_sum(tableau=table)
            words.append(told[0])
            while place_beyond(twin) is not None and mend_place(twin, *place_beyond(twin)) is not None:
                pass
            self.assertEqual(state_of(twin)[:-2], state_of(table)[:-2])
            if told[0] == "point":
                self.assertEqual(told, ("point",))
                self.assertTrue(all(is_beyond(table, place) is None for place in range(table.places)))
                continue
            self.assertEqual(len(told), 2)
            check_keys(self, told[1])
            self.assertEqual(told[1], keyed(twin, holding_ends(twin, *place_beyond(twin))))
            form, bound = given(table, rows, told[1])
            self.assertEqual(set(form), {0})
            self.assertGreater(bound, 0)
            self.assertEqual(corners_of(table, rows), set())
        self.assertGreater(min(words.count("point"), words.count("sum")), 100)


class BestTest(unittest.TestCase):
    def test_example_of_steps(self):
        table = Tableau((((2, 2), False, 5),), ((0, 9), (0, 9)))
        self.assertEqual(most_steps(tableau=table), 27)
        self.assertEqual(most_steps(Tableau((), ((0, 1),) * 3)), 27)
        self.assertEqual(most_steps(Tableau((((1,), False, 0),) * 4, ((0, 1),))), 15)
        table.exchange(2, 1)
        self.assertEqual(most_steps(table), 27)

    def test_first_gain(self):
        rng = generator(40)
        for _ in range(500):
            table = made_tableau(rng)
            goal = tuple(rng.randint(-2, 2) for _ in range(table.many))
            wanted = None
            for column, slope in slopes_of(table, goal):
                if slope[0] and wanted is None and free(table, column, -1 if slope[0] > 0 else 1):
                    wanted = (column, -1 if slope[0] > 0 else 1)
            before = state_of(table)
            self.assertEqual(first_gain(tableau=table, goal=goal), wanted)
            self.assertEqual(state_of(table), before)

    def test_to_best(self):
        rng = generator(41)
        best = walked = 0
        for _ in range(400):
            rows, table = closed_tableau(rng)
            goal = tuple(rng.randint(-3, 3) for _ in range(table.many))
            if point_or_sum(table) != ("point",):
                self.refused(table, "beyond", lambda: to_best(table, goal))
                continue
            best += 1
            twin = twin_of(rows, table)
            point_or_sum(twin)
            if state_of(twin)[:-2] == state_of(table)[:-2]:
                walked += 1
                self.walk(twin, goal)
                told = to_best(tableau=table, goal=goal)
                self.assertEqual(state_of(twin)[:-2], state_of(table)[:-2])
            else:
                told = to_best(tableau=table, goal=goal)
            check_keys(self, told)
            form, bound = given(table, rows, told)
            worth = total(goal, [fraction(value) for value in table.point()])
            self.assertEqual((form, bound), (list(goal), worth))
            self.assertIsNone(first_gain(table, goal))
            self.assertEqual(worth, min(total(goal, corner) for corner in corners_of(table, rows)))
        self.assertGreater(best, 150)
        self.assertGreater(walked, 100)

    def walk(self, twin, goal):
        """Step by step; the worth never rises, and no basis comes twice with the same values."""
        seen = [state_of(twin)]
        most = most_steps(twin)
        worth = total(goal, [fraction(value) for value in twin.point()])
        while first_gain(twin, goal) is not None:
            step_along(twin, *first_gain(twin, goal))
            now = total(goal, [fraction(value) for value in twin.point()])
            self.assertLessEqual(now, worth)
            worth = now
            self.assertNotIn(state_of(twin), seen)
            seen.append(state_of(twin))
            self.assertTrue(all(is_beyond(twin, place) is None for place in range(twin.places)))
        self.assertLess(len(seen) - 1, most)

    def test_goal_of_zero(self):
        table = Tableau((((1, 1), False, 2),), ((0, 5), (0, 5)))
        point_or_sum(table)
        before = state_of(table)
        self.assertEqual(to_best(table, (0, 0)), ())
        self.assertEqual(state_of(table), before)

    def refused(self, table, word, call):
        before = state_of(table)
        with self.assertRaises(Refused) as caught:
            call()
        self.assertEqual(caught.exception.word, word)
        self.assertEqual(state_of(table), before)

    def test_endless(self):
        table = Tableau((((1, 1), False, 2), ((1, -1), False, -3)), ((0, 5), (0, 5)))
        point_or_sum(table)
        table.put_end(0, 1, None)
        table.put_end(1, 1, None)
        with self.assertRaises(Refused) as caught:
            to_best(table, (-1, -1))
        self.assertEqual(caught.exception.word, "endless")
        # Steps taken before stay, and no place is beyond its ends.
        self.assertTrue(all(is_beyond(table, place) is None for place in range(4)))
        column, sign = first_gain(table, (-1, -1))
        self.assertEqual(step_along(table, column, sign), (None, None))
        self.assertEqual(given(table, (((1, 1), 0, 2), ((1, -1), 0, -3)), to_best(table, (1, 1)))[0], [1, 1])

    def test_many_places_meet(self):
        """A cube's corner through which many rows go."""
        rows = tuple((signs, False, -sum(signs) // 1 - 3 * (sum(signs) < 0)) for signs in
                     itertools.product((-1, 0, 1), repeat=3) if any(signs))
        table = Tableau(rows, ((0, 1),) * 3)
        for goal in itertools.product((-1, 0, 1), repeat=3):
            if point_or_sum(table) == ("point",):
                self.walk(table, goal)


class RepairTest(unittest.TestCase):
    def test_cheapest_place(self):
        rng = generator(42)
        found = 0
        for _ in range(800):
            table = made_tableau(rng)
            goal = tuple(rng.randint(-3, 3) for _ in range(table.many))
            if place_beyond(table) is None:
                continue
            place, side = place_beyond(table)
            slopes = dict(slopes_of(table, goal))
            ranks = []
            for column in table.columns:
                entry = fraction(table.entry(place, column))
                sign = (1 if entry > 0 else -1) * (1 if side == 0 else -1)
                if entry and free(table, column, sign):
                    ranks.append((abs(fraction(slopes[column])) / abs(entry), column))
            wanted = min(ranks)[1] if ranks else None
            found += wanted is not None
            self.assertEqual(cheapest_place(tableau=table, goal=goal, place=place, side=side), wanted)
            self.assertEqual(wanted is None, fitting_place(table, place, side) is None)
        self.assertGreater(found, 100)

    def test_repaired(self):
        rng = generator(43)
        words = []
        for _ in range(500):
            rows, table = closed_tableau(rng)
            goal = tuple(rng.randint(-3, 3) for _ in range(table.many))
            if first_gain(table, goal) is not None and rng.random() < 0.8:
                # Ends that are cheap for the goal leave no gain.
                for column, times in enumerate(goal):
                    if times:
                        table.move(column, table.ends(column)[0 if times > 0 else 1])
            if first_gain(table, goal) is not None:
                before = state_of(table)
                with self.assertRaises(Refused) as caught:
                    repaired(table, goal)
                self.assertEqual((caught.exception.word, state_of(table)), ("gain", before))
                continue
            twin = twin_of(rows, table)
            told = repaired(tableau=table, goal=goal)
            words.append(told[0])
            self.follow(twin, goal)
            self.assertEqual(state_of(twin)[:-2], state_of(table)[:-2])
            check_keys(self, told[1])
            form, bound = given(table, rows, told[1])
            corner = corners_of(table, rows)
            if told[0] == "sum":
                self.assertEqual((set(form), corner), ({0}, set()))
                self.assertGreater(bound, 0)
            else:
                worth = total(goal, [fraction(value) for value in table.point()])
                self.assertEqual((form, bound), (list(goal), worth))
                self.assertEqual(worth, min(total(goal, point) for point in corner))
                self.assertEqual(told[1], to_best(table, goal))
        self.assertGreater(min(words.count("best"), words.count("sum")), 80)

    def follow(self, twin, goal):
        """Exchange by exchange; there is no gain after any, and the worth never falls."""
        worth = total(goal, [fraction(value) for value in twin.point()])
        while place_beyond(twin) is not None:
            place, side = place_beyond(twin)
            column = cheapest_place(twin, goal, place, side)
            if column is None:
                return
            end = twin.ends(place)[side]
            twin.exchange(place, column)
            self.assertEqual(twin.value(place), end)
            self.assertIsNone(first_gain(twin, goal))
            now = total(goal, [fraction(value) for value in twin.point()])
            self.assertGreaterEqual(now, worth)
            worth = now

    def test_it_goes_on_from_a_best_point(self):
        rng = generator(44)
        for _ in range(200):
            rows, table = closed_tableau(rng)
            goal = tuple(rng.randint(-3, 3) for _ in range(table.many))
            if point_or_sum(table) != ("point",):
                continue
            to_best(table, goal)
            row = made_rows(rng, table.many, 1)
            table.add_row(row[0])
            low, high = table.ends(0)
            table.put_end(0, 1, pair((fraction(low) + fraction(high)) / 2))
            told = repaired(table, goal)
            self.assertEqual(told[0] == "sum", corners_of(table, rows + row) == set())
            form, _ = given(table, rows + row, told[1])
            self.assertEqual(form, list(goal) if told[0] == "best" else [0] * table.many)


class HoldTest(unittest.TestCase):
    def test_hold_best(self):
        rng = generator(45)
        held = 0
        for _ in range(300):
            rows, table = closed_tableau(rng)
            goal = tuple(rng.randint(-2, 2) for _ in range(table.many))
            word = None
            if place_beyond(table) is not None:
                word = "beyond"
            elif first_gain(table, goal) is not None:
                word = "gain"
            if word is not None:
                before = state_of(table)
                with self.assertRaises(Refused) as caught:
                    hold_best(table, goal)
                self.assertEqual((caught.exception.word, state_of(table)), (word, before))
                if point_or_sum(table) != ("point",):
                    continue
                to_best(table, goal)
            held += 1
            worth = total(goal, [fraction(value) for value in table.point()])
            best = {corner for corner in corners_of(table, rows) if total(goal, corner) == worth}
            slopes, mark, point = slopes_of(table, goal), table.mark(), table.point()
            self.assertIsNone(hold_best(tableau=table, goal=goal))
            self.assertEqual(table.mark(), mark + 2 * sum(slope[0] != 0 for _, slope in slopes))
            self.assertEqual(table.point(), point)
            for column, slope in slopes:
                if slope[0]:
                    self.assertEqual(table.ends(column), (table.value(column),) * 2)
            self.assertEqual(corners_of(table, rows), best)
            table.back(mark)
        self.assertGreater(held, 120)

    def test_both_errors(self):
        table = Tableau((((1, 1), False, 2),), ((0, 5), (0, 5)))
        for call, word in ((lambda: hold_best(table, (-1, 0)), "beyond"), (lambda: to_best(table, (-1, 0)), "beyond"),
                           (lambda: repaired(table, (-1, 0)), "gain")):
            with self.assertRaises(Refused) as caught:
                call()
            self.assertEqual(caught.exception.word, word)
        self.assertEqual(math.comb(3, 2) * 9, most_steps(table))


if __name__ == "__main__":
    unittest.main()
