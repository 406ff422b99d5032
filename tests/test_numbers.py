"""Point 6: fractions."""

import itertools
import unittest
from fractions import Fraction

from paperbest import numbers
from paperbest.errors import InvalidNumber, Refused
from tests.tools import fraction, generator, odd_values, pair

BIG = 10 ** 6


def some_fractions():
    values = {pair(Fraction(top, bottom)) for top in range(-4, 5) for bottom in range(1, 5)}
    values |= {(BIG, BIG - 1), (-BIG, BIG - 1), (BIG - 1, BIG), (1, BIG), (-1, BIG), (BIG, 1), (10 ** 40 + 1, 10 ** 40)}
    return sorted(values)


class NumbersTest(unittest.TestCase):
    def test_fraction_of(self):
        for top, bottom in itertools.product(range(-6, 7), repeat=2):
            if bottom:
                self.assertEqual(numbers.fraction_of(top, bottom), pair(Fraction(top, bottom)))
        self.assertEqual(numbers.fraction_of(0, -7), (0, 1))
        self.assertEqual(numbers.fraction_of(BIG, -BIG), (-1, 1))
        for top in (-1, 0, 1):
            with self.assertRaises(InvalidNumber) as caught:
                numbers.fraction_of(top, 0)
            self.assertEqual(caught.exception.word, "zero")

    def test_whole(self):
        self.assertEqual([numbers.whole(value) for value in (-3, 0, 5)], [(-3, 1), (0, 1), (5, 1)])

    def test_is_fraction(self):
        for value in some_fractions():
            self.assertIs(numbers.is_fraction(value), True)
        wrong = [(0, 2), (2, 4), (1, 0), (0, 0), (1, -2), (-1, -1), (True, 1), (1, True), (False, 1), [1, 2], (1,),
                 (1, 2, 3), ("1", 2), (1, None), (1.0, 2), ((1, 2), 3), (0, -1)]
        for value in wrong + [value for value in odd_values() if repr(value) != "(1, 2)"]:
            self.assertIs(numbers.is_fraction(value), False, value)

    def test_sums_and_products(self):
        for one, other in itertools.product(some_fractions(), repeat=2):
            mine, yours = fraction(one), fraction(other)
            self.assertEqual(numbers.added(one, other), pair(mine + yours))
            self.assertEqual(numbers.taken(one, other), pair(mine - yours))
            self.assertEqual(numbers.timed(one, other), pair(mine * yours))
            self.assertIs(numbers.is_less(one, other), mine < yours)
            if yours:
                self.assertEqual(numbers.parted(one, other), pair(mine / yours))
            else:
                with self.assertRaises(InvalidNumber) as caught:
                    numbers.parted(one, other)
                self.assertEqual(caught.exception.word, "zero")

    def test_close_fractions(self):
        self.assertTrue(numbers.is_less((BIG - 1, BIG), (BIG, BIG + 1)))
        self.assertFalse(numbers.is_less((BIG, BIG + 1), (BIG - 1, BIG)))
        self.assertFalse(numbers.is_less((1, 3), (1, 3)))
        self.assertEqual(numbers.greatest_of(((BIG - 1, BIG), (BIG, BIG + 1), (1, 2))), (BIG, BIG + 1))
        self.assertEqual(numbers.least_of(((-BIG, BIG + 1), (-BIG + 1, BIG))), (-BIG, BIG + 1))

    def test_least_and_greatest(self):
        values = tuple(some_fractions())
        for many in (1, 2, 3):
            for some in itertools.islice(itertools.permutations(values, many), 4000):
                self.assertEqual(numbers.least_of(some), pair(min(map(fraction, some))))
                self.assertEqual(numbers.greatest_of(some), pair(max(map(fraction, some))))
        for function in (numbers.least_of, numbers.greatest_of):
            with self.assertRaises(Refused) as caught:
                function(())
            self.assertEqual(caught.exception.word, "none")

    def test_floor_and_ceiling(self):
        for value in some_fractions():
            exact = fraction(value)
            self.assertEqual(numbers.floor_of(value), exact.__floor__())
            self.assertEqual(numbers.ceiling_of(value), exact.__ceil__())
        self.assertEqual((numbers.floor_of((-1, 2)), numbers.ceiling_of((-1, 2))), (-1, 0))
        self.assertEqual((numbers.floor_of((4, 1)), numbers.ceiling_of((4, 1))), (4, 4))

    def test_weighed(self):
        self.assertEqual(numbers.weighed((), ()), (0, 1))
        self.assertEqual(numbers.weighed((2, -1), ((1, 2), (1, 1))), (0, 1))
        rng = generator(6)
        for _ in range(300):
            many = rng.randint(1, 6)
            coefficients = tuple(rng.choice((0, rng.randint(-9, 9), BIG)) for _ in range(many))
            point = tuple(rng.choice(some_fractions()) for _ in range(many))
            exact = sum(times * fraction(value) for times, value in zip(coefficients, point))
            self.assertEqual(numbers.weighed(coefficients, point), pair(exact))

    def test_names_of_parameters(self):
        self.assertEqual(numbers.fraction_of(top=2, bottom=4), (1, 2))
        self.assertEqual(numbers.added(one=(1, 2), other=(1, 2)), (1, 1))
        self.assertEqual(numbers.weighed(coefficients=(1,), point=((1, 2),)), (1, 2))
        self.assertEqual(numbers.least_of(some=((1, 2),)), numbers.greatest_of(some=((1, 2),)))
        self.assertEqual(numbers.floor_of(value=(1, 2)) + numbers.ceiling_of(value=(1, 2)), 1)
        self.assertEqual(numbers.whole(number=3), (3, 1))


if __name__ == "__main__":
    unittest.main()
