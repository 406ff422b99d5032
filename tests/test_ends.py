"""Points 45 and 47: ends that rows tell, and draws to them."""

import math
import unittest
from fractions import Fraction

from paperbest.ends import goal_draws, row_draws, sum_draws, telling
from paperbest.tasks import Task
from tests.tools import (
    after_draws, changed, generator, holds, leaf_is_right, left_out, made_box, made_wish, points_of, some_names, total)

BIG = 10 ** 6


def top(coefficients, box):
    return sum(max(times * low, times * high) for times, (low, high) in zip(coefficients, box))


def plain_telling(row, box, at, side):
    """What a row tells, as the document says it."""
    coefficients, equal, bound = row
    forms = [(coefficients, bound)] + ([(tuple(-item for item in coefficients), -bound)] if equal else [])
    for form, least in forms:
        if form[at] and (form[at] > 0) == (side == 0):
            value = Fraction(least - top(changed(form, at, 0), box), form[at])
            return math.ceil(value) if side == 0 else math.floor(value)
    return None


def plain_draws(row, box):
    """The first three items of the draws, or None for a leaf."""
    coefficients, equal, bound = row
    if top(coefficients, box) < bound or (equal and top([-item for item in coefficients], box) < -bound):
        return None
    draws = []
    for at in range(len(box)):
        for side in (0, 1):
            end, (low, high) = plain_telling(row, box, at, side), box[at]
            if end is not None and (low < end <= high if side == 0 else low <= end < high):
                draws.append((at, side, end))
                box = changed(box, at, (end, high) if side == 0 else (low, end))
    return draws


class TellingTest(unittest.TestCase):
    def test_examples(self):
        box = ((0, 9), (0, 3))
        for row, at, side, wanted in (
                (((2, -3), False, 1), 0, 0, 1), (((2, -3), False, 1), 0, 1, None), (((2, -3), False, 1), 1, 0, None),
                (((2, -3), False, 1), 1, 1, 5), (((-2, 3), False, -1), 0, 1, 5), (((-1, 1), False, -2), 0, 1, 5),
                (((0, 1), False, 2), 0, 0, None), (((0, 1), False, 2), 0, 1, None), (((0, 1), True, 2), 0, 0, None),
                (((2, 0), True, 5), 0, 0, 3), (((2, 0), True, 5), 0, 1, 2), (((-2, 0), True, -5), 0, 0, 3),
                (((-2, 0), True, -5), 0, 1, 2), (((3, 1), False, 40), 0, 0, 13), (((-3, 0), False, 1), 0, 1, -1),
                (((1, 1), False, -90), 0, 0, -93)):
            self.assertEqual(telling(row=row, box=box, at=at, side=side), wanted, (row, at, side))

    def test_against_trying(self):
        rng = generator(450)
        seen = 0
        for _ in range(1500):
            many = rng.randint(1, 3)
            row = made_wish(rng, many, "sum")[1:]
            box = made_box(rng, many, width=3)
            kept = [point for point in points_of(box) if holds(("sum",) + row, point)]
            for at in range(many):
                for side in (0, 1):
                    end = telling(row, box, at, side)
                    self.assertEqual(end, plain_telling(row, box, at, side))
                    if end is None:
                        continue
                    self.assertTrue(all(point[at] >= end if side == 0 else point[at] <= end for point in kept))
                    if kept and not row[1] and box[at][0] <= end <= box[at][1]:
                        seen += 1
                        self.assertTrue(any(point[at] == end for point in kept), (row, box))
        self.assertGreater(seen, 200)

    def test_limits(self):
        row = ((BIG,) * 40, True, BIG)
        self.assertEqual(telling(row, ((-BIG, BIG),) * 40, 7, 0), 1 - 39 * BIG)
        self.assertEqual(telling(row, ((-BIG, BIG),) * 40, 7, 1), 1 + 39 * BIG)


class DrawsTest(unittest.TestCase):
    def task(self, row, many, before=()):
        return Task(tuple((name, -BIG, BIG) for name in some_names(many)), tuple(before) + (("sum",) + row,), (0,) * many)

    def check(self, row, box, before=()):
        """Compare draws of a sum with those that the document tells; returns their number, None for a leaf."""
        task, k = self.task(row, len(box), before), len(before)
        told = sum_draws(task, k, box)
        self.assertEqual(told, row_draws(("row", k), row, box))
        self.check_told(task, (), row, box, told, "none", None)
        return None if told[:1] == ("leaf",) else len(told)

    def check_told(self, task, cuts, row, box, told, word, worth):
        self.assertIsInstance(told, tuple)
        wanted = plain_draws(row, box)
        if wanted is None:
            self.assertEqual((told[0], len(told), told[1][0]), ("leaf", 2, word))
            self.assertTrue(leaf_is_right(task, cuts, box, told[1], worth), (row, box, told))
            return
        self.assertEqual([draw[:3] for draw in told], wanted, (row, box))
        self.assertTrue(all(draw[3][0] == word for draw in told))
        after_draws(task, cuts, box, told, worth)

    def test_edges(self):
        box = ((0, 9), (0, 3))
        self.assertEqual([draw[:3] for draw in sum_draws(self.task(((2, -3), False, 1), 2), 0, box)], [(0, 0, 1)])
        self.assertEqual(sum_draws(task=self.task(((2, -3), False, 1), 2), k=0, box=((1, 9), (0, 0))), ())
        for row, number in ((((1, 1), False, 12), 2), (((1, 1), False, 13), None), (((1, 1), False, 0), 0), (((1, 1), True, -1), None),
                            (((1, 1), True, 0), 2), (((1, 1), True, 13), None), (((1, 0), True, 4), 2), (((2, 0), True, 5), 1),
                            (((0, -1), False, -2), 1), (((0, 5), False, 15), 1), (((3, 3), True, 4), 3)):
            self.assertEqual(self.check(row, box), number, row)
        # The low end of an equal row is drawn first, what it tells of the high one lies beyond it.
        self.assertEqual([draw[:3] for draw in sum_draws(self.task(((2, 0), True, 5), 2), 0, box)], [(0, 0, 3)])
        # Beyond the task's ends.
        self.check(((1, 1), False, 5), ((-2 * BIG, 2 * BIG), (-2 * BIG, 2 * BIG)))

    def test_sums(self):
        rng = generator(470)
        numbers = []
        for _ in range(1500):
            many = rng.randint(1, 4)
            before = (("sum", (1,) * many, False, 0),) * rng.randint(0, 2)
            numbers.append(self.check(made_wish(rng, many, "sum")[1:], made_box(rng, many), before))
        self.assertGreater(min(numbers.count(None), sum(1 for number in numbers if number)), 200)

    def test_cuts(self):
        rng = generator(471)
        drawn = 0
        for _ in range(500):
            many = rng.randint(1, 3)
            cuts = tuple(made_wish(rng, many, "sum")[1:2] + (False, rng.randint(-5, 8)) for _ in range(3))
            task = self.task(((1,) * many, False, 0), many)
            box, at = made_box(rng, many), rng.randrange(3)
            told = row_draws(key=("cut", at), row=cuts[at], box=box)
            self.check_told(task, cuts, cuts[at], box, told, "none", None)
            drawn += told[:1] not in ((), ("leaf",))
        self.assertGreater(drawn, 50)

    def test_goals(self):
        rng = generator(472)
        words = []
        for _ in range(1000):
            many = rng.randint(1, 3)
            task = Task(tuple((name, 0, 1) for name in some_names(many)), (), tuple(rng.randint(-3, 3) for _ in range(many)))
            box, worth = made_box(rng, many), rng.randint(-12, 20)
            told = goal_draws(task=task, worth=worth, box=box)
            row = (tuple(-item for item in task.goal), False, 1 - worth)
            self.check_told(task, (), row, box, told, "worth", worth)
            words.append(told[:1] == ("leaf",) or len(told) > 0)
            if told[:1] != ("leaf",):
                left = after_draws(task, (), box, told, worth)
                for point in points_of(box):
                    if total(task.goal, point) < worth:
                        self.assertTrue(all(low <= value <= high for value, (low, high) in zip(point, left)))
        self.assertGreater(min(words.count(True), words.count(False)), 50)

    def test_goals_of_0(self):
        task = Task((("x", 0, 9),), (), (0,))
        self.assertEqual(goal_draws(task, 1, ((0, 9),)), ())
        self.assertEqual(goal_draws(task, 0, ((0, 9),)), ("leaf", ("worth", ())))
        self.assertEqual(goal_draws(task, -5, ((0, 9),)), ("leaf", ("worth", ())))
        one = Task((("x", 0, 9),), (), (2,))
        self.assertEqual([draw[:3] for draw in goal_draws(one, 6, ((0, 9),))], [(0, 1, 2)])
        self.assertEqual([draw[:3] for draw in goal_draws(one, 5, ((0, 9),))], [(0, 1, 2)])
        self.assertEqual(goal_draws(one, 0, ((0, 9),))[0], "leaf")
        self.assertEqual([draw[:3] for draw in goal_draws(one, 1, ((0, 9),))], [(0, 1, 0)])

    def test_limits(self):
        rng = generator(473)
        point = [rng.randint(-BIG, BIG) for _ in range(40)]
        row = tuple(rng.randint(-BIG, BIG) for _ in range(40))
        box = tuple((value - 1, value) if times > 0 else (value, value + 1) for value, times in zip(point, row))
        told = sum_draws(self.task((row, True, total(row, point)), 40), 0, box)
        self.check_told(self.task((row, True, total(row, point)), 40), (), (row, True, total(row, point)), box, told, "none", None)
        self.assertEqual(len(told), 40)
        out, _ = left_out(box, told[0])
        self.assertEqual(len(out), 40)


if __name__ == "__main__":
    unittest.main()
