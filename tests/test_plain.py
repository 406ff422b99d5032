"""Point 23: going through all points."""

import unittest

from paperbest.errors import Refused
from paperbest.plain import count_points, plain_best, plain_points, points_in
from paperbest.tasks import Task
from tests.tools import generator, holds_all, made_box, points_of, some_names, total
from tests.test_tasks import made_task

BIG = 10 ** 6


class PlainTest(unittest.TestCase):
    def refused(self, call, value):
        with self.assertRaises(Refused) as caught:
            call(value)
        self.assertEqual(caught.exception.word, "size")

    def test_points(self):
        self.assertEqual(count_points(box=((0, 9), (-3, 3))), 70)
        self.assertEqual(count_points(((-BIG, BIG),) * 40), (2 * BIG + 1) ** 40)
        self.assertEqual(points_in(box=((0, 1), (-1, 1))), ((0, -1), (0, 0), (0, 1), (1, -1), (1, 0), (1, 1)))
        self.assertEqual(points_in(((7, 7),)), ((7,),))
        rng = generator(230)
        for _ in range(100):
            box = made_box(rng, rng.randint(1, 4))
            self.assertEqual(points_in(box), tuple(points_of(box)))
            self.assertEqual(count_points(box), len(points_in(box)))

    def test_tasks(self):
        rng = generator(231)
        none = 0
        for _ in range(200):
            task = made_task(rng)
            box = [(low, high) for _, low, high in task.unknowns]
            kept = tuple(point for point in points_of(box) if holds_all(task, point))
            self.assertEqual(plain_points(task=task), kept)
            told = plain_best(task=task)
            if not kept:
                none += 1
                self.assertEqual(told, ("none",))
                continue
            self.assertEqual((told[0], len(told)), ("best", 3))
            self.assertIn(told[1], kept)
            self.assertEqual(told[2], total(task.goal, told[1]))
            self.assertEqual(told[2], min(total(task.goal, point) for point in kept))
        self.assertGreater(min(none, 200 - none), 20)

    def test_sizes(self):
        """5,000 points are tried, more are refused."""
        box = ((1, 50), (1, 100))
        self.assertEqual(len(points_in(box)), 5000)
        self.refused(points_in, ((1, 5001),))
        self.refused(points_in, ((0, 1),) * 40)
        for last in (4999, 5000):
            task = Task((("x", 0, last),), (("sum", (1,), False, 4990),), (-1,))
            if last == 4999:
                self.assertEqual(len(plain_points(task)), 10)
                self.assertEqual(plain_best(task), ("best", (4999,), -4999))
            else:
                self.refused(plain_points, task)
                self.refused(plain_best, task)
        many = Task(tuple((name, 7, 7) for name in some_names(40)), (), (BIG,) * 40)
        self.assertEqual(plain_best(many), ("best", (7,) * 40, 280 * BIG))


if __name__ == "__main__":
    unittest.main()
