"""A tableau written once more, with fractions of Python and each entry solved anew."""

from fractions import Fraction

from tests.tools import fraction, pair


def solved(matrix, vector):
    """The multipliers of the rows of a matrix that give a vector; None if the matrix has no inverse."""
    many = len(matrix)
    table = [[Fraction(matrix[row][at]) for row in range(many)] + [Fraction(vector[at])] for at in range(many)]
    for at in range(many):
        pivot = next((row for row in range(at, many) if table[row][at]), None)
        if pivot is None:
            return None
        table[at], table[pivot] = table[pivot], table[at]
        table[at] = [item / table[at][at] for item in table[at]]
        for row in range(many):
            if row != at and table[row][at]:
                table[row] = [one - table[row][at] * other for one, other in zip(table[row], table[at])]
    return [row[-1] for row in table]


def determinant(matrix):
    matrix = [[Fraction(item) for item in row] for row in matrix]
    value = Fraction(1)
    for at in range(len(matrix)):
        pivot = next((row for row in range(at, len(matrix)) if matrix[row][at]), None)
        if pivot is None:
            return Fraction(0)
        if pivot != at:
            matrix[at], matrix[pivot] = matrix[pivot], matrix[at]
            value = -value
        value *= matrix[at][at]
        for row in range(at + 1, len(matrix)):
            times = matrix[row][at] / matrix[at][at]
            matrix[row] = [one - times * other for one, other in zip(matrix[row], matrix[at])]
    return value


class PlainTableau:
    def __init__(self, rows, box):
        self.many = len(box)
        self.forms = [[int(at == other) for other in range(self.many)] for at in range(self.many)]
        self.ends = [[Fraction(low), Fraction(high)] for low, high in box]
        self.columns = {at: Fraction(min(max(0, low), high)) for at, (low, high) in enumerate(box)}
        self.puts = []
        for row in rows:
            self.add_row(row)

    def add_row(self, row):
        coefficients, equal, bound = row
        self.forms.append(list(coefficients))
        self.ends.append([Fraction(bound), Fraction(bound) if equal else None])
        return len(self.forms) - 1

    def basis(self):
        return tuple(at for at in range(len(self.forms)) if at not in self.columns)

    def row(self, place):
        """The entries of a place for all columns."""
        columns = sorted(self.columns)
        return dict(zip(columns, solved([self.forms[column] for column in columns], self.forms[place])))

    def value(self, place):
        if place in self.columns:
            return self.columns[place]
        return sum(times * self.columns[column] for column, times in self.row(place).items())

    def point(self):
        return [self.value(at) for at in range(self.many)]

    def bring_within(self):
        for column, value in self.columns.items():
            low, high = self.ends[column]
            if low is not None and value < low:
                self.columns[column] = low
            if high is not None and value > high:
                self.columns[column] = high

    def exchange(self, place, column):
        value, entering = self.value(place), self.value(column)
        del self.columns[column]
        self.columns[place] = value
        assert self.value(column) == entering
        self.bring_within()

    def put_end(self, place, side, value):
        self.puts.append((place, side, self.ends[place][side]))
        self.ends[place][side] = value
        self.bring_within()

    def back(self, mark):
        while len(self.puts) > mark:
            place, side, value = self.puts.pop()
            self.ends[place][side] = value
            self.bring_within()


def compare(test, tableau, plain):
    """Whether a tableau of the package is just what the plain one is."""
    test.assertEqual(tableau.many, plain.many)
    test.assertEqual(tableau.places, len(plain.forms))
    test.assertEqual(tableau.basis, plain.basis())
    test.assertEqual(tableau.columns, tuple(sorted(plain.columns)))
    for place in range(tableau.places):
        ends = tuple(None if end is None else pair(end) for end in plain.ends[place])
        test.assertEqual(tableau.ends(place), ends)
        test.assertEqual(tableau.value(place), pair(plain.value(place)))
    for place in tableau.basis:
        row = {column: pair(entry) for column, entry in plain.row(place).items()}
        test.assertEqual({column: tableau.entry(place, column) for column in tableau.columns}, row)
        test.assertEqual(tableau.row_at(place), {column: row[column] for column in row if row[column][0]})
    test.assertEqual(tableau.point(), tuple(pair(value) for value in plain.point()))
    test.assertEqual(tableau.mark(), len(plain.puts))


def is_beyond(tableau, place):
    """The side at which a place is beyond its ends, or None."""
    low, high = tableau.ends(place)
    value = fraction(tableau.value(place))
    if low is not None and value < fraction(low):
        return 0
    if high is not None and value > fraction(high):
        return 1
    return None


def made_rows(rng, many, rows, spread=3):
    made = []
    while len(made) < rows:
        coefficients = tuple(rng.randint(-spread, spread) for _ in range(many))
        if any(coefficients):
            made.append((coefficients, rng.random() < 0.25, rng.randint(-6, 6)))
    return tuple(made)


def state_of(tableau):
    """All that a tableau tells."""
    places = range(tableau.places)
    return (tableau.many, tableau.places, tableau.basis, tableau.columns, [tableau.ends(place) for place in places],
            [tableau.value(place) for place in places], tableau.point(), tableau.mark(),
            [tableau.row_at(place) for place in tableau.basis])
