"""Points 81 and 82: eithers."""

import unittest

from paperbest.eithers import either_box, either_draws, either_left, either_point, open_sums, sure_sum
from paperbest.tasks import Task
from tests.test_crowds import check_number
from tests.tools import after_draws, generator, holds, hull, made_box, made_wish, points_of, some_names

BIG = 10 ** 6
CALLS = (open_sums, either_left, either_point, sure_sum, either_box, either_draws)
SUMS = (("sum", (2, 0), False, 5), ("sum", (1, 1), False, 9), ("sum", (-1, 0), False, 2))
TASK = Task((("x", 0, 4), ("y", 0, 6)), (("either", SUMS), ("sum", (1, 0), False, 0)), (1, 1))


class EithersTest(unittest.TestCase):
    def check(self, task, number, box):
        """Compare all functions with what trying all points tells; returns how many sums are open."""
        wish = task.wishes[number]
        points = list(points_of(box))
        kept = [point for point in points if holds(wish, point)]
        opened = tuple(at for at, item in enumerate(wish[1]) if any(holds(item, point) for point in points))
        self.assertEqual(open_sums(task, number, box), opened)
        left = either_left(task, number, box)
        if len(opened) > 1:
            self.assertEqual(left, ("either", tuple(wish[1][at] for at in opened)))
        else:
            self.assertEqual(left, wish[1][opened[0]] if opened else None)
        if left is not None:
            self.assertEqual([point for point in points if holds(left, point)], kept)
        sure = [at for at, item in enumerate(wish[1]) if all(holds(item, point) for point in points)]
        self.assertEqual(sure_sum(task, number, box), sure[0] if sure else None)
        draws = either_draws(task, number, box)
        if not kept:
            self.assertIsNone(either_point(task, number, box))
            self.assertIsNone(either_box(task, number, box))
            self.assertEqual(draws, ("leaf", ("shut", number)))
            return 0
        self.assertIn(either_point(task, number, box), kept)
        wanted = hull(kept)
        self.assertEqual(either_box(task, number, box), wanted)
        self.assertEqual(after_draws(task, (), box, draws), wanted)
        self.assertEqual(draws, tuple((at, side, wanted[at][side], ("shut", number)) for at in range(len(box))
                                      for side in (0, 1) if wanted[at][side] != box[at][side]))
        return len(opened)

    def test_example(self):
        box = ((0, 4), (0, 6))
        self.assertEqual(open_sums(task=TASK, number=0, box=box), (0, 1))
        self.assertEqual(either_box(task=TASK, number=0, box=box), ((3, 4), (0, 6)))
        self.assertEqual(either_draws(task=TASK, number=0, box=((0, 4), (0, 3))), ((0, 0, 3, ("shut", 0)),))
        self.assertEqual(either_left(task=TASK, number=0, box=((0, 4), (0, 3))), SUMS[0])
        self.assertEqual(either_point(task=TASK, number=0, box=((0, 1), (0, 3))), None)
        self.assertEqual(sure_sum(task=TASK, number=0, box=((3, 4), (6, 9))), 0)

    def test_edges(self):
        # Tops just at their bounds, and beside them.
        for high, opened in ((2, ()), (3, (0,))):
            self.assertEqual(open_sums(TASK, 0, ((0, high), (0, 5))), opened)
        for high, opened in ((5, (0,)), (4, ())):
            self.assertEqual(open_sums(TASK, 0, ((0, 4), (0, high)))[1:], opened if high == 4 else (1,))
        for box in (((0, 4), (0, 6)), ((0, 4), (0, 4)), ((-5, 4), (0, 6)), ((-5, -2), (0, 6)), ((-1, 1), (0, 6)), ((2, 2), (7, 7)),
                    ((2, 2), (6, 6)), ((-2, -2), (0, 0)), ((3, 3), (-9, 9)), ((-4, 0), (8, 13)), ((0, 2), (7, 8))):
            self.check(TASK, 0, box)

    def test_against_trying(self):
        rng = generator(820)
        counts = [0] * 5
        for _ in range(2500):
            many = rng.randint(2, 3)
            wish = made_wish(rng, many, "either")
            task = Task(tuple((name, 0, 1) for name in some_names(many)), (("unlike", (0, 1)), wish), (0,) * many)
            counts[self.check(task, 1, made_box(rng, many, width=3))] += 1
        self.assertGreater(min(counts), 50, counts)

    def test_numbers(self):
        wishes = TASK.wishes + (("unlike", (0, 1)), ("either", SUMS[:2]), ("table", (0,), ((0,),)), ("round", (0, 1)))
        check_number(self, CALLS, Task(TASK.unknowns, wishes, (0, 0)), (0, 3))

    def test_limits(self):
        rng = generator(821)
        sums = tuple(("sum", tuple(rng.choice((-BIG, BIG, 0, 7)) for _ in range(40)), False, BIG) for _ in range(6))
        task = Task(tuple((name, -BIG, BIG) for name in some_names(40)), (("either", sums),), (0,) * 40)
        box = ((-BIG, BIG),) * 40
        self.assertEqual(open_sums(task, 0, box), (0, 1, 2, 3, 4, 5))
        self.assertTrue(holds(task.wishes[0], either_point(task, 0, box)))
        self.assertEqual(after_draws(task, (), box, either_draws(task, 0, box)), either_box(task, 0, box))
        self.assertEqual(either_draws(task, 0, ((0, 0),) * 40), ("leaf", ("shut", 0)))


if __name__ == "__main__":
    unittest.main()
