"""Points 51 to 53: crowds and full stretches."""

import itertools
import time
import unittest

from paperbest.crowds import crowd_box, crowd_draws, crowd_leaf, crowd_point, full_stretches
from paperbest.errors import Refused
from paperbest.tasks import Task
from tests.tools import (
    after_draws, generator, holds, hull, leaf_is_right, made_box, odd_values, points_of, some_names)

BIG = 10 ** 6
CALLS = (crowd_leaf, crowd_point, full_stretches, crowd_box, crowd_draws)


def task_of(wish, many, before=()):
    """A task with a wish as its last one and narrow ranges, which the boxes need not keep to."""
    return Task(tuple((name, 0, 1) for name in some_names(many)), tuple(before) + (wish,), (0,) * many)


def check_number(test, calls, task, right):
    """Each of some functions refuses what is no number of a wish of its kind."""
    box = ((0, 1),) * len(task.unknowns)
    for call in calls:
        for value in odd_values() + list(range(-2, len(task.wishes) + 2)):
            if isinstance(value, int) and not isinstance(value, bool) and value in right:
                call(task, value, box)
                continue
            with test.assertRaises(Refused) as caught:
                call(task, value, box)
            test.assertEqual(caught.exception.word, "wish")


class CrowdsTest(unittest.TestCase):
    def kept(self, task, box):
        return [point for point in points_of(box) if holds(task.wishes[-1], point)]

    def check_leaf(self, task, box, leaf):
        word, number, places, a, b = leaf
        self.assertEqual((word, number), ("crowd", len(task.wishes) - 1))
        self.assertEqual(len(places), b - a + 2)
        self.assertTrue(leaf_is_right(task, (), box, leaf), (box, leaf))

    def check(self, task, box):
        """Compare all functions with what trying all points tells; returns whether a point keeps the unlike."""
        number = len(task.wishes) - 1
        kept = self.kept(task, box)
        leaf, point = crowd_leaf(task, number, box), crowd_point(task, number, box)
        draws = crowd_draws(task, number, box)
        if not kept:
            self.check_leaf(task, box, leaf)
            self.assertIsNone(point)
            self.assertIsNone(crowd_box(task, number, box))
            self.assertEqual((draws[0], len(draws)), ("leaf", 2))
            self.check_leaf(task, box, draws[1])
            with self.assertRaises(Refused) as caught:
                full_stretches(task, number, box)
            self.assertEqual(caught.exception.word, "shut")
            return False
        self.assertIsNone(leaf)
        self.assertIn(point, kept)
        places = task.wishes[-1][1]
        self.assertTrue(all(point[at] == box[at][0] for at in range(len(box)) if at not in places))
        wanted = tuple(pair if at in places else box[at] for at, pair in enumerate(hull(kept)))
        self.assertEqual(crowd_box(task, number, box), wanted)
        self.assertEqual(after_draws(task, (), box, draws), wanted)
        ends = [(at, side, wanted[at][side]) for at in range(len(box)) for side in (0, 1)
                if wanted[at][side] != box[at][side]]
        self.assertEqual([draw[:3] for draw in draws], ends)
        for _, _, _, crowd in draws:
            self.assertEqual((crowd[:2], len(crowd[2])), (("crowd", number), crowd[4] - crowd[3] + 2))
        self.check_stretches(task, box, kept)
        return True

    def check_stretches(self, task, box, kept):
        places = task.wishes[-1][1]
        told = full_stretches(task, len(task.wishes) - 1, box)
        low, high = min(low for low, _ in box), max(high for _, high in box)
        wanted = []
        for a, b in itertools.combinations_with_replacement(range(low, high + 1), 2):
            within = [at for at in places if a <= box[at][0] and box[at][1] <= b]
            if len(within) == b - a + 1:
                wanted.append((a, b))
                for point in kept:
                    self.assertEqual(sorted(point[at] for at in within), list(range(a, b + 1)))
        self.assertEqual(told, tuple(wanted))
        for (a, b), (c, d) in itertools.combinations(told, 2):
            common = (max(a, c), min(b, d))
            if common[0] <= common[1]:
                self.assertIn(common, told)
            if common[0] <= common[1] + 1:
                self.assertIn((min(a, c), max(b, d)), told)

    def test_example(self):
        unknowns = (("x", 0, 5), ("y", 0, 5), ("z", 0, 5))
        task = Task(unknowns, (("unlike", (0, 1, 2)),), (2, 1, 2))
        box = ((1, 2), (1, 2), (1, 5))
        self.assertEqual(crowd_leaf(task=task, number=0, box=((1, 2), (1, 2), (2, 2))), ("crowd", 0, (0, 1, 2), 1, 2))
        self.assertEqual(crowd_box(task=task, number=0, box=box), ((1, 2), (1, 2), (3, 5)))
        self.assertEqual(crowd_draws(task=task, number=0, box=box), ((2, 0, 3, ("crowd", 0, (0, 1, 2), 1, 2)),))
        self.assertEqual(full_stretches(task=task, number=0, box=box), ((1, 2),))
        self.assertEqual(crowd_point(task=task, number=0, box=box)[2], 3)

    def test_edges(self):
        task = task_of(("unlike", (0, 1, 2)), 3)
        for box in (((1, 2), (1, 2), (1, 2)), ((1, 3), (1, 3), (1, 3)), ((5, 5), (6, 6), (5, 7)), ((1, 1), (2, 2), (3, 3)),
                    ((0, 9), (4, 4), (4, 4)), ((0, 1), (1, 2), (0, 2)), ((1, 2), (2, 3), (1, 1)), ((-5, -4), (-5, -4), (-6, -4)),
                    ((0, 0), (4, 4), (0, 4)), ((3, 4), (3, 4), (4, 6))):
            self.check(task, box)
        # Stretches that touch, overlap and lie within one another.
        task = task_of(("unlike", (0, 1, 2, 3, 4)), 5)
        for box in (((1, 1), (2, 2), (3, 3), (1, 5), (0, 3)), ((1, 2), (1, 2), (3, 4), (3, 4), (1, 6)),
                    ((1, 3), (1, 3), (2, 4), (3, 4), (1, 9)), ((2, 2), (1, 3), (1, 3), (0, 9), (-1, 3)),
                    ((1, 2), (2, 3), (1, 3), (3, 6), (0, 2)), ((0, 5), (1, 2), (1, 2), (4, 5), (4, 5))):
            self.check(task, box)

    def test_places_apart(self):
        task = task_of(("unlike", (1, 3)), 4, (("unlike", (0, 1)), ("sum", (1, 1, 1, 1), False, 3)))
        self.assertTrue(self.check(task, ((7, 8), (2, 2), (-3, -3), (2, 3))))
        self.assertFalse(self.check(task, ((7, 8), (2, 2), (-3, -3), (2, 2))))

    def test_against_trying(self):
        rng = generator(510)
        kept = 0
        for _ in range(3000):
            many = rng.randint(2, 5)
            places = tuple(sorted(rng.sample(range(many), rng.randint(2, many))))
            kept += self.check(task_of(("unlike", places), many), made_box(rng, many, 0, 2, rng.choice((1, 2, 3))))
        self.assertGreater(min(kept, 3000 - kept), 300)

    def test_numbers(self):
        wishes = (("round", (0, 1)), ("unlike", (0, 1)), ("table", (0,), ((0,),)), ("unlike", (0, 1)), ("sum", (1, 1), False, 0),
                  ("bench", ((0, 1), (1, 1))))
        check_number(self, CALLS, Task((("x", 0, 9), ("y", 0, 9)), wishes, (0, 0)), (1, 3))

    def test_limits(self):
        rng = generator(511)
        task = task_of(("unlike", tuple(range(40))), 40)
        start = time.process_time()
        for box in (((0, 39),) * 40, ((-BIG, BIG),) * 40, tuple((at // 2 * 2, at // 2 * 2 + 1) for at in range(40)),
                    tuple((rng.randint(0, 30), rng.randint(31, 80)) for _ in range(40))):
            point = crowd_point(task, 0, box)
            self.assertEqual(len(set(point)), 40)
            self.assertTrue(all(low <= value <= high for value, (low, high) in zip(point, box)))
            self.assertEqual(after_draws(task, (), box, crowd_draws(task, 0, box)), crowd_box(task, 0, box))
        self.assertEqual(crowd_leaf(task, 0, ((0, 38),) * 40), ("crowd", 0, tuple(range(40)), 0, 38))
        pairs = tuple((at // 2 * 2, at // 2 * 2 + 1) for at in range(40))
        self.assertEqual(len(full_stretches(task, 0, pairs)), 210)
        self.assertLess(time.process_time() - start, 10)


if __name__ == "__main__":
    unittest.main()
