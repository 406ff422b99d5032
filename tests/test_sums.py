"""Points 3 and 24 to 26: multipliers."""

import itertools
import unittest
from fractions import Fraction

from paperbest.errors import InvalidPaper
from paperbest.sums import check_multipliers, joined_multipliers, multipliers_of, put_for, summed
from paperbest.tasks import Task
from tests.tools import fraction, generator, odd_values, pair

TASK = Task(
    (("x", 0, 9), ("y", -5, 4)),
    (("sum", (2, 2), False, 5), ("unlike", (0, 1)), ("sum", (4, -1), True, 1), ("either", (
        ("sum", (1, 0), False, 2), ("sum", (0, 1), False, 2)))),
    (3, 2))
CUTS = (((1, 1), False, 3), ((0, -2), False, -7))
BOX = ((1, 8), (-4, 3))
KEYS = (("cut", 0), ("cut", 1), ("high", 0), ("high", 1), ("low", 0), ("low", 1), ("row", 0), ("row", 2))


def row_of_key(key, task=TASK, cuts=CUTS, box=BOX):
    word, at = key
    if word == "row":
        return task.wishes[at][1], task.wishes[at][3]
    if word == "cut":
        return cuts[at][0], cuts[at][2]
    unit = [0] * len(task.unknowns)
    unit[at] = 1 if word == "low" else -1
    return unit, box[at][0] if word == "low" else -box[at][1]


def plain_sum(multipliers, task=TASK, cuts=CUTS, box=BOX):
    """What multipliers give, with fractions of Python."""
    given, bound = [Fraction(0)] * len(task.unknowns), Fraction(0)
    for key, times in multipliers:
        row, row_bound = row_of_key(key, task, cuts, box)
        given = [one + fraction(times) * item for one, item in zip(given, row)]
        bound += fraction(times) * row_bound
    return tuple(pair(item) for item in given), pair(bound)


def some_multipliers(rng):
    table = {}
    for key in KEYS:
        times = Fraction(rng.randint(1, 9), rng.randint(1, 9))
        if rng.random() < 0.4:
            table[key] = pair(-times if key == ("row", 2) and rng.random() < 0.5 else times)
    return tuple(sorted(table.items()))


class SummedTest(unittest.TestCase):
    def test_each_key(self):
        self.assertEqual(summed(TASK, CUTS, BOX, ()), (((0, 1), (0, 1)), (0, 1)))
        for key, given in (
                (("row", 0), (((1, 1), (1, 1)), (5, 2))), (("row", 2), (((2, 1), (-1, 2)), (1, 2))),
                (("cut", 0), (((1, 2), (1, 2)), (3, 2))), (("cut", 1), (((0, 1), (-1, 1)), (-7, 2))),
                (("low", 0), (((1, 2), (0, 1)), (1, 2))), (("high", 0), (((-1, 2), (0, 1)), (-4, 1))),
                (("low", 1), (((0, 1), (1, 2)), (-2, 1))), (("high", 1), (((0, 1), (-1, 2)), (-3, 2)))):
            self.assertEqual(summed(TASK, CUTS, BOX, ((key, (1, 2)),)), given, key)

    def test_sums(self):
        rng = generator(24)
        for _ in range(300):
            multipliers = some_multipliers(rng)
            self.assertEqual(
                summed(task=TASK, cuts=CUTS, box=BOX, multipliers=multipliers), plain_sum(multipliers))

    def test_points_that_keep_the_rows_keep_what_is_given(self):
        rng = generator(3)
        kept = [
            point for point in itertools.product(*[range(low, high + 1) for low, high in BOX])
            if all(sum(one * at for one, at in zip(row, point)) >= bound
                   for row, bound in map(row_of_key, KEYS)) and 4 * point[0] - point[1] == 1]
        self.assertTrue(kept)
        for _ in range(200):
            given, bound = summed(TASK, CUTS, BOX, some_multipliers(rng))
            for point in kept:
                self.assertGreaterEqual(sum(fraction(one) * at for one, at in zip(given, point)), fraction(bound))


class CheckTest(unittest.TestCase):
    def refused(self, value, at, cuts=CUTS):
        with self.assertRaises(InvalidPaper) as caught:
            check_multipliers(TASK, cuts, BOX, value)
        self.assertEqual(caught.exception.at, at, value)

    def test_right_ones(self):
        self.assertIsNone(check_multipliers(task=TASK, cuts=CUTS, box=BOX, value=()))
        self.assertIsNone(check_multipliers(TASK, CUTS, BOX, tuple((key, (1, 2)) for key in KEYS)))
        self.assertIsNone(check_multipliers(TASK, CUTS, BOX, ((("row", 2), (-1, 2)),)))
        rng = generator(25)
        for _ in range(200):
            self.assertIsNone(check_multipliers(TASK, CUTS, BOX, some_multipliers(rng)))

    def test_no_tuple(self):
        for value in odd_values():
            if not isinstance(value, tuple):
                self.refused(value, -1)

    def test_wrong_items(self):
        good = (("cut", 0), (1, 2))
        for value in odd_values():
            self.refused((value,), 0)
            self.refused((good, value, value), 1)
            self.refused((good, (value, (1, 2))), 1)
            if repr(value) not in ("0", "2"):
                self.refused((good, (("row", value), (1, 2))), 1)
            self.refused((good, ((value, 0), (1, 2))), 1)
            if repr(value) != "(1, 2)":
                self.refused((good, (("row", 0), value)), 1)

    def test_wrong_keys(self):
        for key in (("row", 1), ("row", 3), ("row", 4), ("row", -1), ("cut", 2), ("cut", -1), ("low", 2), ("low", -1),
                    ("high", 2), ("row", True), ("low", False), ("row",), ("row", 0, 0), ["row", 0], ("rows", 0),
                    ("", 0), (0, "row"), (b"row", 0), ("worth", 0)):
            self.refused(((key, (1, 1)),), 0)
        self.refused(((("cut", 0), (1, 1)),), 0, ())

    def test_wrong_fractions(self):
        for key in KEYS:
            self.refused(((key, (0, 1)),), 0)
            self.refused(((key, (2, 2)),), 0)
            self.refused(((key, 1),), 0)
            if key != ("row", 2):
                self.refused(((key, (-1, 2)),), 0)

    def test_keys_ascend(self):
        for one, other in itertools.product(KEYS, repeat=2):
            value = ((one, (1, 1)), (other, (1, 1)))
            if one < other:
                self.assertIsNone(check_multipliers(TASK, CUTS, BOX, value))
            else:
                self.refused(value, 1)

    def test_first_wrong_one(self):
        self.refused(((("cut", 1), (1, 1)), (("cut", 0), (1, 1)), None), 1)
        self.refused((None, (("cut", 0), (0, 1))), 0)
        self.refused(((("cut", 0), (1, 1), 0), None), 0)


class MadeTest(unittest.TestCase):
    def test_multipliers_of(self):
        table = {("row", 2): (1, 2), ("high", 1): (0, 1), ("cut", 10): (-1, 3), ("cut", 9): (2, 1)}
        self.assertEqual(
            multipliers_of(table), ((("cut", 9), (2, 1)), (("cut", 10), (-1, 3)), (("row", 2), (1, 2))))
        self.assertEqual(len(table), 4)
        self.assertEqual(multipliers_of(table={}), ())

    def test_joined_multipliers(self):
        one = ((("low", 0), (1, 2)), (("row", 2), (-1, 3)))
        other = ((("low", 1), (1, 1)), (("row", 2), (1, 2)))
        self.assertEqual(
            joined_multipliers(one, other, (2, 1)),
            ((("low", 0), (1, 2)), (("low", 1), (2, 1)), (("row", 2), (2, 3))))
        self.assertEqual(joined_multipliers(one, other, (2, 3)), ((("low", 0), (1, 2)), (("low", 1), (2, 3))))
        self.assertEqual(joined_multipliers(one=one, other=other, many=(0, 1)), one)
        self.assertEqual(joined_multipliers((), (), (1, 1)), ())

    def test_joined_sums(self):
        rng = generator(26)
        for _ in range(300):
            one, other = some_multipliers(rng), some_multipliers(rng)
            many = pair(Fraction(rng.randint(0, 4), rng.randint(1, 4)))
            joined = joined_multipliers(one, other, many)
            table = dict(one)
            for key, times in other:
                table[key] = pair(fraction(table.get(key, (0, 1))) + fraction(times) * fraction(many))
            self.assertEqual(joined, tuple(sorted((key, table[key]) for key in table if table[key][0])))

    def test_put_for(self):
        one = ((("cut", 1), (3, 2)), (("low", 0), (1, 2)))
        other = ((("low", 0), (1, 3)), (("row", 2), (-1, 1)))
        self.assertEqual(
            put_for(one, ("cut", 1), other), ((("low", 0), (1, 1)), (("row", 2), (-3, 2))))
        self.assertEqual(put_for(one, ("cut", 0), other), one)
        self.assertEqual(put_for(one, ("low", 0), ()), one[:1])
        self.assertEqual(
            put_for(multipliers=one, key=("low", 0), other=other),
            ((("cut", 1), (3, 2)), (("low", 0), (1, 6)), (("row", 2), (-1, 2))))


if __name__ == "__main__":
    unittest.main()
