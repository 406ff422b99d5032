"""Points 73 and 74: near points and guesses."""

import unittest

from paperbest.guesses import guess
from paperbest.near import best_near, distance_between, nearest_kept
from paperbest.rounding import nearest_point, rounded_by_signs, turns_of
from paperbest.tasks import Task, box_of
from tests.tools import (
    KINDS, fraction, generator, holds_all, kept_points_of, made_wish, pair, points_of, some_names, some_task, total)

BIG = 10 ** 6


def distance(one, other):
    return sum(abs(value - far) for value, far in zip(one, other))


class NearTest(unittest.TestCase):
    def test_distances(self):
        self.assertEqual(distance_between(one=(1, -2), other=(4, 2)), 7)
        self.assertEqual(distance_between((5,), (5,)), 0)
        self.assertEqual(distance_between((BIG, -BIG), (-BIG, BIG)), 4 * BIG)

    def check(self, task, box, hint, most):
        kept = [point for point in points_of(box) if holds_all(task, point)]
        near = [point for point in kept if distance(point, hint) <= most]
        found = nearest_kept(task=task, box=box, hint=hint, most=most)
        best = best_near(task=task, box=box, hint=hint, most=most)
        if not near:
            self.assertIsNone(found)
            self.assertIsNone(best)
            return 0
        point, far = found
        self.assertIn(point, near)
        self.assertEqual(far, distance(point, hint))
        self.assertEqual(far, min(distance(other, hint) for other in near))
        self.assertIn(best, near)
        self.assertEqual(total(task.goal, best), min(total(task.goal, other) for other in near))
        if most >= max(distance(other, hint) for other in points_of(box)):
            self.assertEqual(near, kept)
        return len(near)

    def test_all_kinds(self):
        rng = generator(740)
        seen = {}
        for _ in range(500):
            task = some_task(rng, rng.randint(1, 4), KINDS, 3, 4)
            box = tuple((low, rng.randint(low, high)) for low, high in box_of(task))
            far = rng.choice((0, 0, 3, 99))
            hint = tuple(rng.randint(low - far, high + far) for low, high in box)
            for most in (0, 1, rng.randint(2, 6), 10 ** 7):
                many = self.check(task, box, hint, most)
                seen[many > 1, many > 0, most in (0, 10 ** 7)] = True
        self.assertEqual(len(seen), 6)

    def test_edges(self):
        task = Task((("x", -3, 3), ("y", -3, 3)), (("unlike", (0, 1)),), (1, -1))
        self.assertEqual(nearest_kept(task, box_of(task), (2, 3), most=0), ((2, 3), 0))
        self.assertIsNone(nearest_kept(task, box_of(task), (2, 2), most=0))
        self.assertEqual(nearest_kept(task, box_of(task), (2, 2), most=1)[1], 1)
        self.assertIn(best_near(task, box_of(task), (2, 2), most=1), ((1, 2), (2, 3)))
        # Hints far outside the box.
        self.assertEqual(nearest_kept(task, box_of(task), (BIG, -BIG), most=3 * BIG), ((3, -3), 2 * BIG - 6))
        self.assertIsNone(nearest_kept(task, box_of(task), (BIG, -BIG), most=2 * BIG - 7))
        self.assertEqual(best_near(task, box_of(task), (BIG, -BIG), most=10 ** 30), (-3, 3))
        self.assertIsNone(nearest_kept(Task((("x", 0, 3),), (("sum", (2,), True, 3),), (0,)), ((0, 3),), (1,), most=99))

    def test_limits(self):
        names = some_names(40)
        wishes = [("unlike", tuple(range(40)))] + [("sum", tuple(1 if at == k else -1 if at == k + 1 else 0 for at in range(40)), False, -BIG) for k in range(39)]
        task = Task(tuple((name, -BIG, BIG) for name in names), tuple(wishes), (0,) * 40)
        hint = tuple(3 * at for at in range(40))
        self.assertEqual(nearest_kept(task, box_of(task), hint, most=0), (hint, 0))
        self.assertEqual(nearest_kept(task, box_of(task), hint, most=5), (hint, 0))
        point, far = nearest_kept(task, box_of(task), (3, 3) + hint[2:], most=5)
        self.assertEqual(far, 1)
        self.assertTrue(holds_all(task, point))
        unlike = Task(task.unknowns, (("unlike", tuple(range(40))),), (0,) * 40)
        point, far = nearest_kept(unlike, box_of(unlike), (7,) * 40, most=BIG)
        self.assertEqual(far, 400)
        self.assertTrue(holds_all(unlike, point))

    def test_jobs(self):
        rng = generator(743)
        for at in range(12):
            many = 4
            jobs = tuple((place, rng.randint(1, 4), rng.randint(1, 2)) for place in range(many))
            wish = ("bench", tuple(job[:2] for job in jobs)) if at % 2 else ("room", jobs, 3)
            wishes = (wish, made_wish(rng, many, rng.choice(KINDS))) if at % 3 == 0 else (wish,)
            task = Task(tuple((name, 0, 8) for name in some_names(many)), wishes, tuple(rng.randint(-3, 3) for _ in range(many)))
            self.check(task, box_of(task), (4,) * many, 99)
            self.check(task, box_of(task), tuple(rng.randint(0, 8) for _ in range(many)), rng.randint(0, 9))


class GuessTest(unittest.TestCase):
    def check(self, task, box, start, reach):
        point = guess(task=task, box=box, start=start, reach=reach)
        values = [fraction(value) for value in start]
        worth = total(task.goal, values)
        wanted = []
        rows_kept = all(total(wish[1], values) == wish[3] if wish[2] else total(wish[1], values) >= wish[3]
                        for wish in task.wishes if wish[0] == "sum")
        sums = all(wish[0] == "sum" for wish in task.wishes)
        if all(value.denominator == 1 for value in values) and holds_all(task, tuple(int(value) for value in values)):
            wanted.append(worth)
        if turns_of(task) is not None and rows_kept:
            wanted.append(worth)
        if sums and rows_kept and rounded_by_signs(task, start) is not None:
            wanted.append(None)
        if reach > 0:
            best = best_near(task, box, nearest_point(start), most=reach)
            if best is not None:
                wanted.append(total(task.goal, best))
        if wanted:
            self.assertIsNotNone(point)
            for most in wanted:
                if most is not None:
                    self.assertLessEqual(total(task.goal, point), most)
        if point is not None:
            self.assertTrue(holds_all(task, point))
            self.assertTrue(all(low <= value <= high for value, (low, high) in zip(point, box)))
        return len(wanted), point is not None, rows_kept

    def test_made_starts(self):
        rng = generator(741)
        seen = {}
        for at in range(700):
            kinds = (KINDS, ("sum",), KINDS)[at % 3]
            task = some_task(rng, rng.randint(1, 3), kinds, 3, 4)
            box = tuple((low, rng.randint(low, high)) for low, high in box_of(task))
            start = tuple(pair(fraction((rng.randint(6 * low, 6 * high), rng.choice((6, 6, 3, 1)))))
                          for low, high in box)
            start = tuple(value if low * value[1] <= value[0] <= high * value[1] else (low, 1)
                          for value, (low, high) in zip(start, box))
            told = self.check(task, box, start, rng.choice((0, 0, 1, 3)))
            seen[told[0] > 0, told[1]] = seen.get((told[0] > 0, told[1]), 0) + 1
            kept = kept_points_of(task)
            if kept:
                point = rng.choice(kept)
                self.assertLessEqual(total(task.goal, guess(task, box_of(task), tuple((value, 1) for value in point))), total(task.goal, point))
        self.assertGreater(seen[True, True], 100)
        self.assertGreater(seen[False, False], 100)

    def test_difference_tasks(self):
        rng = generator(742)
        kept_rows = 0
        for _ in range(400):
            many = rng.randint(2, 4)
            rows = []
            for _ in range(rng.randint(1, 3)):
                one, other = rng.sample(range(many), 2)
                rows.append(("sum", tuple(1 if at == one else -1 if at == other else 0 for at in range(many)), False, rng.randint(-2, 0)))
            task = Task(tuple((name, 0, 4) for name in some_names(many)), tuple(rows), tuple(rng.randint(-3, 3) for _ in range(many)))
            start = tuple(pair(fraction((rng.randint(0, 24), 6))) for _ in range(many))
            kept_rows += self.check(task, box_of(task), start, 0)[2]
        self.assertGreater(kept_rows, 100)

    def test_none(self):
        task = Task((("x", 0, 3), ("y", 0, 3)), (made_wish(generator(1), 2, "unlike"),), (1, 1))
        self.assertIsNone(guess(task, box_of(task), ((3, 2), (3, 2))))
        self.assertIsNotNone(guess(task, box_of(task), ((3, 2), (3, 2)), reach=1))


if __name__ == "__main__":
    unittest.main()
