"""Point 73: moves and descents."""

import itertools
import time
import unittest

from paperbest.lacks import miss
from paperbest.moves import descent, is_still, pair_moves
from paperbest.tasks import Task
from tests.tools import (
    KINDS, changed, generator, holds_all, made_box, made_wish, points_of, some_names, total)

BIG = 10 ** 6


def plain_pair_moves(box, point):
    """The points to which moves of two unknowns lead, by comparing all points near by."""
    found = set()
    for i, j in itertools.permutations(range(len(point)), 2):
        found.add(changed(changed(point, i, point[j]), j, point[i]))
        for one, other in itertools.product((-1, 1), repeat=2):
            found.add(changed(changed(point, i, point[i] + one), j, point[j] + other))
    inside = [other for other in found if all(low <= at <= high for at, (low, high) in zip(other, box))]
    return tuple(sorted(other for other in inside if other != point))


def all_moves(box, point):
    singles = [changed(point, at, value) for at, (low, high) in enumerate(box) for value in range(low, high + 1)]
    return [other for other in singles if other != point] + list(plain_pair_moves(box, point))


def rank(task, point):
    return (miss(task, point), total(task.goal, point))


def made_task(rng, most=4, wishes=3):
    """Some task, a box within its ranges and a point in the box."""
    many = rng.randint(2, most)
    box = made_box(rng, many, -2, 2, 3)
    unknowns = tuple((name, low - rng.randint(0, 1), high + rng.randint(0, 1))
                     for name, (low, high) in zip(some_names(many), box))
    made = tuple(made_wish(rng, many, rng.choice(KINDS)) for _ in range(rng.randint(0, wishes)))
    task = Task(unknowns, made, tuple(rng.randint(-2, 2) for _ in range(many)))
    return task, box, tuple(rng.randint(low, high) for low, high in box)


class PairMovesTest(unittest.TestCase):
    def test_examples(self):
        self.assertEqual(pair_moves(box=((0, 3), (0, 3)), point=(1, 3)), ((0, 2), (2, 2), (3, 1)))
        self.assertEqual(pair_moves(((0, 3),), (1,)), ())
        self.assertEqual(pair_moves(((1, 1), (2, 2)), (1, 2)), ())
        # The exchange of equal values leads nowhere, and those that go out of the box are none.
        self.assertEqual(pair_moves(((0, 1), (0, 1)), (1, 1)), ((0, 0),))
        self.assertEqual(pair_moves(((0, 2), (0, 9)), (0, 5)), ((1, 4), (1, 6)))
        # An exchange that each one's move by 1 is too.
        self.assertEqual(pair_moves(((0, 2), (0, 2)), (0, 1)), ((1, 0), (1, 2)))

    def test_against_trying(self):
        rng = generator(730)
        for _ in range(400):
            _, box, point = made_task(rng)
            self.assertEqual(pair_moves(box, point), plain_pair_moves(box, point))

    def test_limits(self):
        point = tuple(range(40))
        self.assertEqual(len(pair_moves(((-BIG, BIG),) * 40, point)), 780 * 5 - 39)


class DescentTest(unittest.TestCase):
    def test_is_still(self):
        rng = generator(731)
        still = 0
        for _ in range(600):
            task, box, point = made_task(rng)
            wanted = not any(rank(task, other) < rank(task, point) for other in all_moves(box, point))
            self.assertIs(is_still(task=task, box=box, point=point), wanted, (task.wishes, task.goal, box, point))
            still += wanted
        self.assertGreater(min(still, 600 - still), 50)

    def test_worth_counts_too(self):
        task = Task((("x", 0, 5), ("y", 0, 5)), (("sum", (1, 1), True, 5),), (2, 1))
        # Only a move of both keeps the sum.
        self.assertIs(is_still(task, ((0, 5), (0, 5)), (3, 2)), False)
        self.assertIs(is_still(task, ((0, 5), (0, 5)), (0, 5)), True)
        self.assertIs(is_still(task, ((3, 5), (0, 2)), (3, 2)), True)
        self.assertEqual(descent(task, ((0, 5), (0, 5)), (3, 2))[-1], (0, 5))

    def test_descents(self):
        rng = generator(732)
        moved = kept = 0
        for _ in range(500):
            task, box, point = made_task(rng)
            most = rng.choice((0, 1, 2, 200))
            told = descent(task, box, point, most=most)
            self.assertIsInstance(told, tuple)
            self.assertEqual(told[0], point)
            self.assertLessEqual(len(told), most + 1)
            for one, other in zip(told, told[1:]):
                self.assertIn(other, all_moves(box, one))
                self.assertLess(rank(task, other), rank(task, one))
            self.assertEqual(len(set(told)), len(told))
            if len(told) <= most:
                self.assertFalse(any(rank(task, other) < rank(task, told[-1]) for other in all_moves(box, told[-1])))
            moved += len(told) > 2
            if holds_all(task, point):
                kept += len(told) > 1
                self.assertTrue(all(holds_all(task, other) for other in told))
        self.assertGreater(min(moved, kept), 20)

    def test_most(self):
        task = Task((("x", 0, 9), ("y", 0, 9)), (("unlike", (0, 1)),), (1, 1))
        self.assertEqual(descent(task, ((0, 9), (0, 9)), (9, 8), most=0), ((9, 8),))
        self.assertEqual(len(descent(task, ((0, 9), (0, 9)), (9, 8), most=1)), 2)
        self.assertEqual(total(task.goal, descent(task=task, box=((0, 9), (0, 9)), point=(9, 8))[-1]), 1)
        self.assertEqual(len(descent(task, ((9, 9), (0, 9)), (9, 8), most=200)), 2)

    def test_all_points_of_a_small_box(self):
        task = Task((("x", 0, 2), ("y", 0, 2), ("z", 0, 2)), (("round", (0, 1, 2)), ("sum", (1, 0, 0), False, 1)),
                    (0, 1, 0))
        for point in points_of(((0, 2),) * 3):
            last = descent(task, ((0, 2),) * 3, point)[-1]
            self.assertTrue(is_still(task, ((0, 2),) * 3, last))

    def test_limits(self):
        rng = generator(733)
        many = 40
        wishes = tuple(made_wish(rng, many, rng.choice(("sum", "unlike", "room", "round", "either", "bench")))
                       for _ in range(20))
        task = Task(tuple((name, -BIG, BIG) for name in some_names(many)), wishes, (BIG,) * many)
        start = time.process_time()
        told = descent(task, ((-BIG, BIG),) * many, (0,) * many, most=5)
        self.assertEqual(len(told), 6)
        is_still(task, ((-BIG, BIG),) * many, told[-1])
        self.assertLess(time.process_time() - start, 20)


if __name__ == "__main__":
    unittest.main()
