"""Points 8 and 9: rows, and what follows from one row."""

import itertools
import math
import unittest
from fractions import Fraction

from paperbest.errors import Refused
from paperbest.rows import opposite_row, parting_point, row_follows, row_of, sides_of, slim_row, tight_row
from tests.tools import fraction, generator, pair, total

BIG = 10 ** 6


def keeps(row, point):
    value = total(row[0], point)
    return value == row[2] if row[1] else value >= row[2]


def some_rows(rng, many, spread=4):
    while True:
        coefficients = tuple(rng.randint(-spread, spread) for _ in range(many))
        if any(coefficients):
            return (coefficients, rng.random() < 0.5, rng.randint(-spread - 3, spread + 3))


class RowsTest(unittest.TestCase):
    def test_slim_row(self):
        self.assertEqual(slim_row(((4, -6), False, 8)), ((2, -3), False, 4))
        self.assertEqual(slim_row(((4, -6), True, 3)), ((4, -6), True, 3))
        self.assertEqual(slim_row(((-5, 0), True, 0)), ((-1, 0), True, 0))
        self.assertEqual(slim_row(((0, BIG), False, -BIG)), ((0, 1), False, -1))

    def test_tight_row(self):
        self.assertEqual(tight_row(((2, 4), False, 3)), ((1, 2), False, 2))
        self.assertEqual(tight_row(((2, 4), False, -3)), ((1, 2), False, -1))
        self.assertEqual(tight_row(((-2, 4), False, 4)), ((-1, 2), False, 2))
        self.assertEqual(tight_row(((-4, 6), True, 2)), ((2, -3), True, -1))
        self.assertEqual(tight_row(((0, -3), True, 6)), ((0, 1), True, -2))
        self.assertEqual(tight_row(((0, -3), True, 7)), ((2, 0), True, 1))
        self.assertEqual(tight_row(((4,), True, 2)), ((2,), True, 1))
        self.assertEqual(tight_row(((2,), True, 1)), ((2,), True, 1))

    def test_tight_rows_are_equal_just_for_the_same_integers(self):
        rows = [((a, b), equal, bound) for a, b in itertools.product(range(-2, 3), repeat=2) if a or b
                for equal in (False, True) for bound in range(-3, 4)]
        grid = list(itertools.product(range(-9, 10), repeat=2))
        kept = {row: tuple(point for point in grid if keeps(row, point)) for row in rows}
        for one, other in itertools.combinations(rows, 2):
            self.assertEqual(tight_row(one) == tight_row(other), kept[one] == kept[other], (one, other))
        for row in rows:
            self.assertEqual(tight_row(tight_row(row)), tight_row(row))

    def test_row_of(self):
        self.assertEqual(row_of(((1, 2), (-2, 3)), "<=", (1, 1)), ((-3, 4), False, -6))
        self.assertEqual(row_of(((1, 2), (-2, 3)), ">=", (1, 1)), ((3, -4), False, 6))
        self.assertEqual(row_of(((-1, 2), (0, 1)), "=", (1, 3)), ((-3, 0), True, 2))
        self.assertEqual(row_of(((4, 1), (6, 1)), "=", (2, 1)), ((2, 3), True, 1))
        self.assertEqual(row_of(((4, 1),), ">=", (0, 1)), ((1,), False, 0))
        for sense in (">=", "<=", "="):
            with self.assertRaises(Refused) as caught:
                row_of(((0, 1), (0, 1)), sense, (1, 1))
            self.assertEqual(caught.exception.word, "zero")

    def test_row_of_is_kept_by_the_same_fractions_and_slim(self):
        rng = generator(8)
        for _ in range(400):
            many = rng.randint(1, 4)
            coefficients = tuple(pair(Fraction(rng.randint(-5, 5), rng.randint(1, 6))) for _ in range(many))
            bound = pair(Fraction(rng.randint(-5, 5), rng.randint(1, 6)))
            if not any(top for top, _ in coefficients):
                continue
            sense = rng.choice((">=", "<=", "="))
            row = row_of(coefficients=coefficients, sense=sense, bound=bound)
            self.assertEqual(math.gcd(*row[0], row[2]), 1)
            self.assertIs(row[1], sense == "=")
            for _ in range(5):
                point = [Fraction(rng.randint(-6, 6), rng.randint(1, 3)) for _ in range(many)]
                value = sum(fraction(item) * at for item, at in zip(coefficients, point)) - fraction(bound)
                wanted = value == 0 if sense == "=" else (value >= 0 if sense == ">=" else value <= 0)
                self.assertEqual(keeps(row, point), wanted)

    def test_opposite_and_sides(self):
        self.assertEqual(opposite_row(((1, -2, 0), False, 3)), ((-1, 2, 0), False, -3))
        self.assertEqual(opposite_row(((1, -2), True, 0)), ((-1, 2), True, 0))
        self.assertEqual(sides_of(((1, -2), False, 3)), (((1, -2), False, 3),))
        self.assertEqual(sides_of(((1, -2), True, 3)), (((1, -2), False, 3), ((-1, 2), False, -3)))


class FollowsTest(unittest.TestCase):
    def check(self, one, other):
        """What follows has no parting point; what does not has one that shows it."""
        point = parting_point(one, other)
        self.assertEqual(row_follows(one, other), point is None, (one, other))
        if point is not None:
            self.assertIsInstance(point, tuple)
            self.assertEqual(len(point), len(one[0]))
            self.assertTrue(keeps(one, point) and not keeps(other, point), (one, other, point))
        return point is None

    def test_one_unknown(self):
        rows = [((a,), equal, bound) for a in (-3, -2, -1, 1, 2, 3) for equal in (False, True)
                for bound in range(-7, 8)]
        grid = range(-30, 31)
        for one, other in itertools.product(rows, repeat=2):
            plain = all(keeps(other, (at,)) for at in grid if keeps(one, (at,)))
            self.assertEqual(self.check(one, other), plain, (one, other))

    def test_two_unknowns(self):
        rows = [((a, b), equal, bound) for a, b in itertools.product((-2, -1, 0, 1, 2), repeat=2) if a or b
                for equal in (False, True) for bound in (-3, -1, 0, 1, 2)]
        grid = list(itertools.product(range(-14, 15), repeat=2))
        kept = {row: {point for point in grid if keeps(row, point)} for row in rows}
        for one, other in itertools.product(rows, repeat=2):
            self.assertEqual(self.check(one, other), kept[one] <= kept[other], (one, other))

    def test_edges(self):
        self.assertTrue(row_follows(((2, 0), False, 1), ((3, 0), False, 3)))
        self.assertFalse(row_follows(((2, 0), False, 0), ((3, 0), False, 1)))
        # No integers keep the first row, so each row follows, also one of the same kind.
        self.assertTrue(row_follows(((2, 4), True, 3), ((1, 0), False, 9)))
        self.assertTrue(row_follows(((2, 4), True, 3), ((0, 5), True, 1)))
        self.assertFalse(row_follows(((1, 0), False, 9), ((2, 4), True, 3)))
        self.assertTrue(row_follows(((2, -4), True, 6), ((-3, 6), True, -9)))
        self.assertTrue(row_follows(((2, -4), True, 6), ((-3, 6), False, -10)))
        self.assertFalse(row_follows(((2, -4), True, 6), ((-3, 6), False, -8)))
        self.assertIsNone(parting_point(((2, 4), True, 3), ((1, 0), False, 9)))
        self.assertEqual(parting_point(((1,), True, 5), ((1,), False, 6)), (5,))

    def test_many_unknowns(self):
        rng = generator(9)
        for _ in range(1500):
            many = rng.randint(1, 6)
            one = some_rows(rng, many)
            other = some_rows(rng, many)
            if rng.random() < 0.5:
                times = rng.choice((-3, -2, -1, 1, 2, 3))
                other = (tuple(times * item for item in one[0]), rng.random() < 0.5,
                         times * one[2] + rng.randint(-2, 2))
            self.check(one, other)

    def test_limits(self):
        rng = generator(10)
        for _ in range(60):
            one = some_rows(rng, 40, BIG)
            self.check(one, some_rows(rng, 40, BIG))
            self.check(one, (one[0], one[1], one[2] - 1))
            self.check(one, (one[0], False, one[2] + 1))
            self.assertTrue(self.check(one, (tuple(3 * item for item in one[0]), one[1], 3 * one[2])))


if __name__ == "__main__":
    unittest.main()
