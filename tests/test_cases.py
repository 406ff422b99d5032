"""Point 98: the opposites of wishes."""

import time
import unittest

from paperbest.cases import opposite_cases
from paperbest.errors import Refused
from paperbest.tasks import Task
from paperbest.wishes import is_wish
from tests.tools import KINDS, generator, holds, made_box, made_wish, points_of, some_names

BIG = 10 ** 6


def task_over(box):
    return Task(tuple((name,) + pair for name, pair in zip(some_names(len(box)), box)), (), (0,) * len(box))


class CasesTest(unittest.TestCase):
    def check(self, wish, box, cases=None):
        """A point within the ranges breaks the wish exactly if it keeps all wishes of one or more cases."""
        cases = opposite_cases(task=task_over(box), wish=wish) if cases is None else cases
        self.assertIsInstance(cases, tuple)
        for case in cases:
            self.assertIsInstance(case, tuple)
            self.assertTrue(all(is_wish(item, len(box)) for item in case), (wish, case))
        broken = 0
        for point in points_of(box):
            meets = any(all(holds(item, point) for item in case) for case in cases)
            self.assertEqual(meets, not holds(wish, point), (wish, point, cases))
            broken += meets
        return broken

    def test_each_kind(self):
        box = ((-1, 3), (0, 4), (-2, 2))
        for wish in (
                ("sum", (1, 2, -1), False, 3), ("sum", (1, 2, -1), True, 3), ("unlike", (0, 1, 2)), ("unlike", (0, 2)),
                ("table", (2, 0), ((-2, 3), (0, 0), (0, 1), (1, 9), (5, 0))), ("table", (1,), ((2,),)),
                ("either", (("sum", (1, 0, 0), False, 2), ("sum", (0, -1, 1), False, 1))),
                ("bench", ((0, 2), (1, 3), (2, 1))), ("room", ((0, 2, 1), (1, 3, 2), (2, 1, 1)), 3),
                ("room", ((0, 3, 1), (1, 3, 1), (2, 3, 1)), 2), ("round", (0, 1, 2)), ("round", (1, 2))):
            self.assertGreater(self.check(wish, box), 0)

    def test_against_trying(self):
        rng = generator(980)
        for kind in KINDS:
            broken = sum(self.check(made_wish(rng, many, kind), made_box(rng, many, -1, 1, 3))
                         for many in [rng.randint(2, 4) for _ in range(60)])
            self.assertGreater(broken, 0)

    def test_wishes_that_cannot_be_broken(self):
        box = ((0, 1), (5, 6))
        everything = tuple((x, y) for x in (0, 1) for y in (5, 6))
        for wish in (("table", (0, 1), everything), ("room", ((0, 9, 1), (1, 9, 2)), 3), ("sum", (1, 1), False, 5),
                     ("unlike", (0, 1))):
            self.assertEqual(self.check(wish, box), 0)
        self.assertEqual(opposite_cases(task_over(box), ("table", (0, 1), everything)), ())
        self.assertEqual(opposite_cases(task_over(box), ("room", ((0, 9, 1), (1, 9, 2)), 3)), ())

    def test_one_value_too_few_or_too_many(self):
        self.assertEqual(self.check(("table", (0,), ((0,), (1,), (3,))), ((0, 3), (0, 0))), 1)
        self.assertEqual(self.check(("table", (0,), ((0,), (1,), (2,))), ((-1, 2), (0, 0))), 1)
        self.assertEqual(self.check(("bench", ((0, 2), (1, 2))), ((0, 4), (2, 2))), 3)
        self.assertEqual(self.check(("room", ((0, 1, 2), (1, 1, 2), (2, 1, 1)), 4), ((0, 1),) * 3), 2)
        self.assertEqual(self.check(("round", (0, 1)), ((-1, 2), (-1, 2))), 15)

    def test_limits_within(self):
        """Rooms with 12 jobs, rounds of 8 unknowns and tables with 250 values are not refused."""
        rng = generator(981)
        start = time.process_time()
        room = ("room", tuple((at, 2, rng.randint(1, 3)) for at in range(12)), 9)
        cases = opposite_cases(task_over(((0, 9),) * 12), room)
        for _ in range(300):
            point = tuple(rng.randint(0, 9) for _ in range(12))
            meets = any(all(holds(item, point) for item in case) for case in cases)
            self.assertEqual(meets, not holds(room, point))
        opposite_cases(task_over(((0, 9),) * 12), ("room", tuple((at, 2, 1) for at in range(12)), 5))
        ring = ("round", tuple(range(8)))
        cases = opposite_cases(task_over(((-1, 8),) * 8), ring)
        for _ in range(300):
            point = list(range(1, 8)) + [0]
            point[rng.randrange(8)] = rng.randint(-1, 8)
            meets = any(all(holds(item, point) for item in case) for case in cases)
            self.assertEqual(meets, not holds(ring, point))
        lots = tuple(sorted({tuple(rng.randint(0, 2) for _ in range(5)) for _ in range(200)}))[:50]
        table = ("table", (4, 0, 1, 3, 2), lots)
        cases = opposite_cases(task_over(((0, 3),) * 5), table)
        for point in points_of(((0, 3),) * 5):
            meets = any(all(holds(item, point) for item in case) for case in cases)
            self.assertEqual(meets, not holds(table, point))
        bench = ("bench", tuple((at, BIG) for at in range(40)))
        self.assertEqual(len(opposite_cases(task_over(((-BIG, BIG),) * 40), bench)), 780)
        self.assertLess(time.process_time() - start, 30)

    def test_beyond_the_limits(self):
        """These are refused with the word that the document names."""
        wide = task_over(((0, 9),) * 40)
        for wish in (("room", tuple((at, 2, 1) for at in range(13)), 5), ("round", tuple(range(9))),
                     ("table", (0,), tuple((at,) for at in range(251)))):
            with self.assertRaises(Refused) as caught:
                opposite_cases(wide, wish)
            self.assertEqual(caught.exception.word, "size")
        self.assertEqual(len(opposite_cases(wide, ("unlike", tuple(range(40))))), 780)


if __name__ == "__main__":
    unittest.main()
