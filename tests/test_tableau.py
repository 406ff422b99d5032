"""Points 32 to 35: tableaus."""

import itertools
import unittest
from fractions import Fraction

from paperbest.errors import InvalidNumber, Refused
from paperbest.tableau import Tableau
from tests.plain_tableau import PlainTableau, compare, determinant, made_rows, state_of
from tests.tools import fraction, generator, made_box, odd_values, pair

BIG = 10 ** 6
ROWS = (((1, 1), False, 2), ((1, -1), True, 0))
BOX = ((0, 5), (0, 5))


class StartTest(unittest.TestCase):
    def test_start(self):
        table = Tableau(rows=ROWS, box=BOX)
        self.assertEqual((table.many, table.places, table.basis, table.columns), (2, 4, (2, 3), (0, 1)))
        self.assertEqual([table.ends(place=place) for place in range(4)], [
            ((0, 1), (5, 1)), ((0, 1), (5, 1)), ((2, 1), None), ((0, 1), (0, 1))])
        self.assertEqual([table.value(place=place) for place in range(4)], [(0, 1)] * 4)
        self.assertEqual(table.point(), ((0, 1), (0, 1)))
        self.assertEqual((table.entry(place=2, column=1), table.entry(3, 1)), ((1, 1), (-1, 1)))
        self.assertEqual(table.row_at(place=3), {0: (1, 1), 1: (-1, 1)})
        self.assertEqual(table.mark(), 0)
        self.assertFalse(hasattr(table, "rows") or hasattr(table, "box"))

    def test_nearest_to_zero(self):
        table = Tableau((((1, 1, 1, 1), False, 0),), ((-3, 5), (2, 5), (-7, -4), (0, 0)))
        self.assertEqual(table.point(), ((0, 1), (2, 1), (-4, 1), (0, 1)))
        self.assertEqual(table.value(4), (-2, 1))

    def test_no_rows(self):
        table = Tableau((), ((1, 2),))
        self.assertEqual((table.many, table.places, table.basis, table.columns), (1, 1, (), (0,)))

    def test_returned_rows_are_new(self):
        table = Tableau(ROWS, BOX)
        table.row_at(2)[0] = None
        self.assertEqual(table.row_at(2), {0: (1, 1), 1: (1, 1)})
        self.assertEqual(Tableau((((0, 5), False, 2),), BOX).row_at(2), {1: (5, 1)})


class ChangesTest(unittest.TestCase):
    def test_exchange(self):
        table = Tableau(ROWS, BOX)
        # The sum is beyond its low end, which it gets.
        self.assertIsNone(table.exchange(place=2, column=0))
        self.assertEqual((table.basis, table.columns), ((0, 3), (1, 2)))
        self.assertEqual(table.point(), ((2, 1), (0, 1)))
        self.assertEqual(table.row_at(0), {1: (-1, 1), 2: (1, 1)})
        self.assertEqual(table.row_at(3), {1: (-2, 1), 2: (1, 1)})
        self.assertEqual(table.value(3), (2, 1))

    def test_exchange_changes_no_value_if_the_place_is_within(self):
        table = Tableau((((2, 3), False, -4),), BOX)
        table.move(0, (3, 2))
        before = [table.value(place) for place in range(3)]
        table.exchange(2, 1)
        self.assertEqual([table.value(place) for place in range(3)], before)
        self.assertEqual(table.row_at(1), {0: (-2, 3), 2: (1, 3)})

    def test_move(self):
        table = Tableau(ROWS, BOX)
        self.assertIsNone(table.move(column=0, value=(7, 2)))
        self.assertEqual([table.value(place) for place in range(4)], [(7, 2), (0, 1), (7, 2), (7, 2)])
        table.move(0, (5, 1))
        table.move(0, (0, 1))
        self.assertEqual(table.value(2), (0, 1))

    def test_put_end(self):
        table = Tableau(ROWS, BOX)
        self.assertIsNone(table.put_end(place=0, side=0, value=(3, 2)))
        self.assertEqual((table.ends(0), table.value(0), table.value(2)), (((3, 2), (5, 1)), (3, 2), (3, 2)))
        table.put_end(0, 1, None)
        table.put_end(2, 1, (2, 1))
        self.assertEqual((table.ends(0), table.ends(2)), (((3, 2), None), ((2, 1), (2, 1))))
        # A place of the basis may be beyond its ends.
        table.put_end(2, 0, None)
        table.put_end(2, 1, (1, 1))
        self.assertEqual(table.value(2), (3, 2))
        self.assertEqual(table.mark(), 5)
        table.exchange(2, 1)
        self.assertEqual((table.value(2), table.value(0), table.value(1)), ((1, 1), (3, 2), (-1, 2)))

    def test_equal_ends(self):
        table = Tableau(ROWS, BOX)
        table.put_end(1, 0, (5, 1))
        self.assertEqual((table.ends(1), table.value(1)), (((5, 1), (5, 1)), (5, 1)))
        table.put_end(1, 0, (5, 1))
        self.assertEqual(table.mark(), 2)

    def test_back(self):
        table = Tableau(ROWS, BOX)
        table.put_end(0, 0, (3, 1))
        table.put_end(0, 1, (4, 1))
        table.put_end(0, 1, None)
        table.move(0, (9, 1))
        self.assertIsNone(table.back(mark=2))
        self.assertEqual((table.ends(0), table.value(0), table.mark()), (((3, 1), (4, 1)), (4, 1), 2))
        table.back(2)
        table.back(0)
        self.assertEqual((table.ends(0), table.value(0), table.mark()), (((0, 1), (5, 1)), (4, 1), 0))

    def test_each_one_taken_back_brings_within(self):
        table = Tableau((), ((0, 10),))
        table.put_end(0, 1, (4, 1))
        table.put_end(0, 1, (20, 1))
        table.put_end(0, 0, (6, 1))
        self.assertEqual(table.value(0), (6, 1))
        # Back over the high end of 4, though in the end it is 10.
        table.back(0)
        self.assertEqual((table.value(0), table.ends(0)), ((4, 1), ((0, 1), (10, 1))))

    def test_back_keeps_basis_and_rows(self):
        table = Tableau(ROWS, BOX)
        table.put_end(2, 1, (3, 1))
        table.exchange(2, 0)
        self.assertEqual(table.add_row(row=((1, 2), True, 4)), 4)
        table.put_end(4, 0, None)
        table.back(0)
        self.assertEqual((table.basis, table.columns, table.places), ((0, 3, 4), (1, 2), 5))
        self.assertEqual((table.ends(2), table.ends(4)), (((2, 1), None), ((4, 1), (4, 1))))

    def test_add_row(self):
        table = Tableau(ROWS, BOX)
        table.exchange(2, 0)
        before = [table.value(place) for place in range(4)]
        self.assertEqual(table.add_row(((3, 4), False, 7)), 4)
        self.assertEqual([table.value(place) for place in range(5)], before + [(6, 1)])
        self.assertEqual((table.ends(4), table.row_at(4)), (((7, 1), None), {1: (1, 1), 2: (3, 1)}))
        self.assertEqual(table.add_row(((0, 2), True, 7)), 5)
        self.assertEqual((table.ends(5), table.basis), (((7, 1), (7, 1)), (0, 3, 4, 5)))

    def test_determinants(self):
        """Each entry is a quotient of two determinants; the lower one is told by the basis."""
        rng = generator(33)
        for _ in range(60):
            many = rng.randint(1, 4)
            rows = made_rows(rng, many, rng.randint(1, 5))
            table = Tableau(rows, ((-9, 9),) * many)
            for _ in range(8):
                place, column = rng.choice(table.basis), rng.choice(table.columns)
                if table.entry(place, column)[0]:
                    table.exchange(place, column)
            inner = [at for at in table.basis if at < many]
            sums = [at - many for at in table.columns if at >= many]
            lower = determinant([[rows[row][0][at] for at in inner] for row in sums])
            self.assertNotEqual(lower, 0)
            for place, column in itertools.product(table.basis, table.columns):
                upper = fraction(table.entry(place, column)) * lower
                self.assertEqual(upper.denominator, 1)
                minors = set()
                for many_rows in range(0, min(len(rows), many) + 1):
                    for chosen in itertools.combinations(rows, many_rows):
                        for at in itertools.combinations(range(many), many_rows):
                            minors.add(abs(determinant([[row[0][i] for i in at] for row in chosen])))
                self.assertIn(abs(upper), minors | {Fraction(0)})

    def test_the_way_does_not_matter(self):
        rng = generator(34)
        for _ in range(60):
            many = rng.randint(2, 4)
            rows = made_rows(rng, many, 4)
            seen = {}
            for _ in range(6):
                table = Tableau(rows, ((-9, 9),) * many)
                for _ in range(10):
                    place, column = rng.choice(table.basis), rng.choice(table.columns)
                    if table.entry(place, column)[0]:
                        table.exchange(place, column)
                    entries = [table.row_at(place) for place in table.basis]
                    self.assertEqual(seen.setdefault(table.basis, entries), entries)

    def test_any_calls_against_a_plain_tableau(self):
        rng = generator(35)
        for _ in range(120):
            many = rng.randint(1, 4)
            rows, box = made_rows(rng, many, rng.randint(0, 4)), made_box(rng, many, -4, 3, 5)
            table, plain = Tableau(rows, box), PlainTableau(rows, box)
            compare(self, table, plain)
            for _ in range(14):
                self.one_call(rng, table, plain)
                compare(self, table, plain)

    def one_call(self, rng, table, plain):
        word = rng.choice(("exchange", "exchange", "move", "put", "put", "back", "row"))
        if word == "exchange" and table.basis:
            place, column = rng.choice(table.basis), rng.choice(table.columns)
            if table.entry(place, column)[0] == 0:
                with self.assertRaises(Refused):
                    table.exchange(place, column)
                return
            table.exchange(place, column)
            plain.exchange(place, column)
        elif word == "move":
            column, value = rng.choice(table.columns), Fraction(rng.randint(-20, 20), rng.randint(1, 4))
            low, high = plain.ends[column]
            if (low is not None and value < low) or (high is not None and value > high):
                with self.assertRaises(Refused) as caught:
                    table.move(column, pair(value))
                self.assertEqual(caught.exception.word, "ends")
                return
            table.move(column, pair(value))
            plain.columns[column] = value
        elif word == "put":
            place, side = rng.randrange(table.places), rng.randint(0, 1)
            value = rng.choice((None, Fraction(rng.randint(-20, 20), rng.randint(1, 3))))
            other = plain.ends[place][1 - side]
            if value is not None and other is not None and (value > other if side == 0 else value < other):
                with self.assertRaises(Refused) as caught:
                    table.put_end(place, side, pair(value))
                self.assertEqual(caught.exception.word, "crossed")
                return
            table.put_end(place, side, None if value is None else pair(value))
            plain.put_end(place, side, value)
        elif word == "back":
            mark = rng.randint(0, table.mark())
            table.back(mark)
            plain.back(mark)
        elif word == "row" and table.places < 9:
            row = made_rows(rng, table.many, 1)[0]
            self.assertEqual(table.add_row(row), plain.add_row(row))

    def test_limits(self):
        rng = generator(36)
        rows = made_rows(rng, 40, 60, BIG)
        table = Tableau(rows, ((-BIG, BIG),) * 40)
        for at in range(12):
            table.exchange(40 + at, at)
        point = [fraction(value) for value in table.point()]
        for at, (coefficients, _, _) in enumerate(rows):
            self.assertEqual(
                fraction(table.value(40 + at)), sum(times * value for times, value in zip(coefficients, point)))


class RefusedTest(unittest.TestCase):
    def setUp(self):
        self.table = Tableau(ROWS + (((0, 3), False, 1),), BOX)
        self.table.exchange(2, 0)
        self.table.put_end(3, 1, None)

    def refused(self, error, word, call):
        """The call raises this error, and changes nothing."""
        before = state_of(self.table)
        with self.assertRaises(error) as caught:
            call()
        self.assertEqual(caught.exception.word, word)
        self.assertEqual(state_of(self.table), before)

    def test_places(self):
        for value in odd_values() + [5, -1, "0", (0, 1)]:
            if repr(value) in ("0", "1", "2"):
                continue
            for call in (lambda: self.table.ends(value), lambda: self.table.value(value),
                         lambda: self.table.put_end(value, None, "x")):
                self.refused(InvalidNumber, "place", call)

    def test_entries(self):
        # The basis is 0, 3, 4; the columns are 1 and 2.
        for value in odd_values() + [5, 6]:
            if repr(value) not in ("0", "3", "4"):
                for call in (lambda: self.table.entry(value, None), lambda: self.table.row_at(value),
                             lambda: self.table.exchange(value, None)):
                    self.refused(Refused, "basis", call)
            if repr(value) not in ("1", "2"):
                for call in (lambda: self.table.entry(0, value), lambda: self.table.exchange(3, value)):
                    self.refused(Refused, "column", call)
        self.assertEqual(self.table.entry(4, 2), (0, 1))
        self.refused(Refused, "zero", lambda: self.table.exchange(4, 2))

    def test_moves(self):
        for value in odd_values():
            if repr(value) not in ("1", "2"):
                self.refused(Refused, "column", lambda: self.table.move(value, None))
            if repr(value) != "(1, 2)":
                self.refused(InvalidNumber, "value", lambda: self.table.move(1, value))
        for value in ((-1, 2), (51, 10), (-1, 1)):
            self.refused(Refused, "ends", lambda: self.table.move(1, value))
        for value in ((2, 4), (0, 2), (1, 0), (1, -1)):
            self.refused(InvalidNumber, "value", lambda: self.table.move(1, value))
        self.refused(Refused, "ends", lambda: self.table.move(2, (3, 2)))
        self.table.move(2, (10 ** 9, 1))

    def test_put_ends(self):
        for value in odd_values() + [2, -1]:
            if repr(value) not in ("0", "1"):
                self.refused(InvalidNumber, "side", lambda: self.table.put_end(0, value, "x"))
            if repr(value) not in ("None", "(1, 2)"):
                self.refused(InvalidNumber, "value", lambda: self.table.put_end(0, 0, value))
        self.refused(Refused, "crossed", lambda: self.table.put_end(0, 0, (51, 10)))
        self.refused(Refused, "crossed", lambda: self.table.put_end(1, 1, (-1, 10)))
        self.refused(Refused, "crossed", lambda: self.table.put_end(4, 1, (9, 10)))

    def test_marks(self):
        self.assertEqual(self.table.mark(), 1)
        for value in odd_values() + [2, -1, "1"]:
            if repr(value) not in ("0", "1"):
                self.refused(InvalidNumber, "mark", lambda: self.table.back(value))


if __name__ == "__main__":
    unittest.main()
