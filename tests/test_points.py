"""Point 18: points."""

import itertools
import unittest

from paperbest.errors import InvalidBox, InvalidPoint
from paperbest.points import broken, check_box, check_point, in_box, keeps, keeps_wish, worth
from paperbest.tasks import Task, box_of
from paperbest.wishes import named_by
from tests.test_tasks import made_task
from tests.tools import KINDS, generator, holds, holds_all, made_wish, odd_values, points_of, total

BIG = 10 ** 6
TASK = Task((("x", 0, 9), ("y", -3, 7)), (("sum", (1, 1), False, 2), ("unlike", (0, 1))), (4, 6))


class CheckTest(unittest.TestCase):
    def refused(self, function, value, at):
        with self.assertRaises(InvalidPoint if function is check_point else InvalidBox) as caught:
            function(TASK, value)
        self.assertEqual(caught.exception.at, at, value)

    def test_check_point(self):
        self.assertIsNone(check_point(task=TASK, value=(0, 0)))
        self.assertIsNone(check_point(TASK, (10 ** 30, -BIG)))
        for value in odd_values():
            if not isinstance(value, tuple) or len(value) != 2:
                self.refused(check_point, value, -1)
            if isinstance(value, bool) or not isinstance(value, int):
                self.refused(check_point, (0, value), 1)
                self.refused(check_point, (value, value), 0)
        for value, at in (((0,), -1), ((0, 0, 0), -1), ([0, 0], -1), ((True, False), 0), ((0, 1.0), 1)):
            self.refused(check_point, value, at)

    def test_check_box(self):
        self.assertIsNone(check_box(task=TASK, value=((0, 0), (-BIG, 10 ** 30))))
        for value in odd_values():
            if not isinstance(value, tuple) or len(value) != 2:
                self.refused(check_box, value, -1)
            if repr(value) != "(1, 2)":
                self.refused(check_box, ((0, 0), value), 1)
                self.refused(check_box, (value, value), 0)
        for value, at in ((((0, 0),), -1), ([(0, 0), (0, 0)], -1), (((0, 0), (1, 0)), 1), (((0, 0, 0), (1, 0)), 0),
                          (((0, True), (0, 0)), 0), (((0, 0), [0, 0]), 1), (((0, None), None), 0), (((0,), 0), 0)):
            self.refused(check_box, value, at)


class KeptTest(unittest.TestCase):
    def test_worth_and_in_box(self):
        self.assertEqual(worth(goal=(2, -3), point=(5, 1)), 7)
        self.assertEqual(worth((0,), (BIG,)), 0)
        self.assertEqual(worth((BIG,) * 40, (-BIG,) * 40), -40 * BIG * BIG)
        self.assertIs(in_box(point=(0, 5), box=((0, 0), (4, 5))), True)
        for point in ((-1, 5), (1, 5), (0, 3), (0, 6)):
            self.assertIs(in_box(point, ((0, 0), (4, 5))), False)

    def test_each_kind(self):
        for wish, kept, lost in (
                (("sum", (2, 1), False, 5), ((2, 1), (3, 0)), ((2, 0),)),
                (("sum", (2, 1), True, 5), ((2, 1),), ((2, 0), (2, 2))),
                (("unlike", (0, 1)), ((0, 1),), ((1, 1),)),
                (("table", (1, 0), ((1, 4), (2, 3))), ((4, 1), (3, 2)), ((1, 4), (4, 2))),
                (("either", (("sum", (1, 0), False, 3), ("sum", (0, 1), False, 3))), ((3, 0), (0, 3)), ((2, 2),)),
                (("bench", ((0, 2), (1, 3))), ((0, 2), (3, 0)), ((0, 1), (2, 0), (0, 0))),
                (("room", ((0, 2, 2), (1, 3, 2)), 4), ((0, 0),), ()),
                (("room", ((0, 2, 2), (1, 3, 2)), 3), ((0, 2), (3, 0)), ((0, 1), (2, 0), (0, 0))),
                (("round", (0, 1)), ((1, 0),), ((0, 1), (1, 1), (0, 0), (2, 0), (-1, 0), (1, -2)))):
            for point in kept:
                self.assertIs(keeps_wish(wish=wish, point=point), True, (wish, point))
            for point in lost:
                self.assertIs(keeps_wish(wish, point), False, (wish, point))

    def test_rounds(self):
        wish = ("round", (0, 2, 3))
        kept = [point for point in itertools.product(range(-1, 4), (7,), range(-1, 4), range(-1, 4))
                if keeps_wish(wish, point)]
        self.assertEqual(kept, [(1, 7, 2, 0), (2, 7, 0, 1)])

    def test_all_kinds_against_the_plain_meaning(self):
        rng = generator(18)
        for kind in KINDS:
            seen = set()
            for _ in range(150):
                wish = made_wish(rng, 4, kind)
                for _ in range(12):
                    point = tuple(rng.randint(-1, 5) for _ in range(4))
                    seen.add(holds(wish, point))
                    self.assertIs(keeps_wish(wish, point), holds(wish, point), (wish, point))
                    other = tuple(at if i in named_by(wish) else 99 for i, at in enumerate(point))
                    self.assertIs(keeps_wish(wish, other), holds(wish, point))
                    if kind in ("bench", "room"):
                        later = tuple(at + 1000 for at in point)
                        self.assertIs(keeps_wish(wish, later), holds(wish, point))
                    if kind == "bench":
                        room = ("room", tuple(job + (1,) for job in wish[1]), 1)
                        self.assertIs(keeps_wish(room, point), holds(wish, point))
            self.assertEqual(seen, {True, False}, kind)

    def test_broken_and_keeps(self):
        rng = generator(17)
        seen = set()
        for _ in range(200):
            task = made_task(rng)
            for point in itertools.islice(points_of(tuple((low - 1, high + 1) for low, high in box_of(task))), 60):
                lost = tuple(k for k, wish in enumerate(task.wishes) if not holds(wish, point))
                self.assertEqual(broken(task=task, point=point), lost)
                self.assertIs(keeps(task=task, point=point), holds_all(task, point))
                seen.add((in_box(point, box_of(task)), lost == ()))
        self.assertEqual(len(seen), 4)

    def test_limits(self):
        jobs = tuple((at, BIG, BIG) for at in range(40))
        self.assertTrue(keeps_wish(("room", jobs, BIG), tuple(at * BIG for at in range(40))))
        self.assertFalse(keeps_wish(("room", jobs, BIG), tuple(at * BIG - at // 39 for at in range(40))))
        bench = ("bench", tuple((at, BIG) for at in range(40)))
        self.assertTrue(keeps_wish(bench, tuple(-at * BIG for at in range(40))))
        self.assertTrue(keeps_wish(("round", tuple(range(40))), tuple((at + 1) % 40 for at in range(40))))
        self.assertFalse(keeps_wish(("round", tuple(range(40))), tuple((at + 2) % 40 for at in range(40))))
        self.assertEqual(total((1,), (2,)), 2)


if __name__ == "__main__":
    unittest.main()
