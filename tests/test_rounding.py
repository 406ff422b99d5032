"""Point 71: rounding."""

import itertools
import math
import unittest
from fractions import Fraction

from paperbest.duals import relaxed
from paperbest.rounding import (
    best_threshold, free_ways, nearest_point, rounded_at, rounded_by_signs, threshold_points, turns_of)
from paperbest.tasks import Task, box_of
from tests.tools import fraction, generator, holds, holds_all, made_wish, pair, points_of, some_names, total

BIG = 10 ** 6


def task_of(wishes, many, goal=None, low=0, high=4):
    unknowns = tuple((name, low, high) for name in some_names(many))
    return Task(unknowns, tuple(wishes), (0,) * many if goal is None else goal)


def some_start(rng, many, low=0, high=4):
    return tuple(pair(Fraction(rng.randint(low * 6, high * 6), 6)) for _ in range(many))


def keeps_rows(task, start):
    exact = [fraction(value) for value in start]
    return all(holds(wish, exact) for wish in task.wishes if wish[0] == "sum")


class SignsTest(unittest.TestCase):
    def test_free_ways(self):
        wishes = (("sum", (1, -1, 0, 0, 2), False, 0), ("sum", (1, -2, 0, 1, -1), False, 0), ("sum", (0, 0, 0, 1, 0), True, 3),
                  ("unlike", (0, 1)), ("either", (("sum", (-1, 1, 1, 1, 1), False, 1),) * 2))
        self.assertEqual(free_ways(task=task_of(wishes, 5)), (
            (False, True), (True, False), (True, True), (False, False), (False, False)))
        self.assertEqual(free_ways(task_of((("unlike", (0, 1)),), 2)), ((True, True),) * 2)
        self.assertEqual(free_ways(task_of((("sum", (1, -1), True, 0),), 2)), ((False, False),) * 2)

    def test_rounded_by_signs(self):
        wishes = (("sum", (1, -1, 0), False, 0),)
        start = ((1, 2), (7, 3), (-3, 2))
        for goal, wanted in (((-1, 5, 0), (1, 2, -2)), ((1, -1, 1), (1, 2, -2)), ((0, 0, -1), (1, 2, -1))):
            self.assertEqual(rounded_by_signs(task=task_of(wishes, 3, goal), start=start), wanted)
        equal = task_of((("sum", (1, 0), True, 1),), 2)
        self.assertIsNone(rounded_by_signs(equal, ((1, 2), (1, 2))))
        # Integers stay, also where neither is free.
        self.assertEqual(rounded_by_signs(equal, ((1, 1), (1, 2))), (1, 0))
        self.assertIsNone(rounded_by_signs(task_of((("sum", (1, 0), False, 1), ("sum", (-1, 0), False, -3)), 2), ((3, 2), (1, 1))))

    def test_rows_stay_kept(self):
        rng = generator(710)
        seen = 0
        for _ in range(1500):
            many = rng.randint(1, 3)
            task = task_of([made_wish(rng, many, "sum", 1) for _ in range(rng.randint(0, 2))], many,
                           tuple(rng.randint(-1, 1) for _ in range(many)))
            start = some_start(rng, many)
            told = rounded_by_signs(task, start)
            ways = free_ways(task)
            stuck = any(value[1] != 1 and way == (False, False) for value, way in zip(start, ways))
            self.assertEqual(told is None, stuck)
            if told is None:
                continue
            for value, exact, (falls, rises), times in zip(told, map(fraction, start), ways, task.goal):
                down = falls and (not rises or times >= 0)
                self.assertEqual(value, exact if exact.denominator == 1 else math.floor(exact) + (0 if down else 1))
            if keeps_rows(task, start):
                seen += 1
                self.assertTrue(keeps_rows(task, [(value, 1) for value in told]))
        self.assertGreater(seen, 100)

    def test_nearest(self):
        for start, wanted in (((1, 2), 0), ((3, 2), 1), ((-1, 2), -1), ((-3, 2), -2), ((1, 3), 0), ((2, 3), 1), ((-1, 3), 0),
                              ((-2, 3), -1), ((5, 1), 5), ((-5, 1), -5), ((0, 1), 0), ((499999, 1000000), 0),
                              ((500001, 1000000), 1), ((2 * BIG - 1, 2), BIG - 1)):
            self.assertEqual(nearest_point(start=(start,)), (wanted,), start)
        self.assertEqual(nearest_point(((1, 2), (7, 4), (-7, 4))), (0, 2, -2))


class TurnsTest(unittest.TestCase):
    def plain_turns(self, task):
        """All turns, by trying them; None if the task is no difference task."""
        for wish in task.wishes:
            if wish[0] != "sum" or any(abs(item) > 1 for item in wish[1]) or sum(map(abs, wish[1])) > 2:
                return None
        found = []
        for turns in itertools.product((1, -1), repeat=len(task.unknowns)):
            pairs = [[times * turn for times, turn in zip(wish[1], turns) if times] for wish in task.wishes]
            if all(sorted(items) == [-1, 1] for items in pairs if len(items) == 2):
                found.append(turns)
        return found

    def test_edges(self):
        for wishes, many in (
                ((), 2), ((("sum", (1, -1), False, 0),), 2), ((("sum", (1, 1), True, 0),), 2), ((("sum", (0, -1), False, 0),), 2),
                ((("sum", (1, 1, 0), False, 0), ("sum", (0, 1, 1), False, 0), ("sum", (1, 0, -1), False, 0)), 3),
                ((("sum", (1, 1, 0), False, 0), ("sum", (0, 1, 1), False, 0)), 4), ((("sum", (-1, -1), False, 0),), 2)):
            wishes = tuple(("sum", (wish[1] + (0, 0))[:many]) + wish[2:] for wish in wishes)
            task = task_of(wishes, many)
            self.assertIn(turns_of(task=task), self.plain_turns(task))
        for wishes in ((("sum", (2, -1), False, 0),), (("sum", (2, 0), False, 0),), (("unlike", (0, 1)),),
                       (("sum", (1, 1), False, 0), ("sum", (1, -1), False, 0)), (("table", (0,), ((1,),)),),
                       (("sum", (1, -1), False, 0), ("round", (0, 1)))):
            self.assertIsNone(turns_of(task_of(wishes, 2)))
            self.assertIsNone(best_threshold(task_of(wishes, 2), ((1, 1), (1, 1))))
        self.assertIsNone(turns_of(task_of((("sum", (1, 1, 1), False, 0),), 3)))
        odd = [("sum", tuple(int(at in (i, j)) for at in range(3)), False, 0) for i, j in ((0, 1), (1, 2), (0, 2))]
        self.assertIsNone(turns_of(task_of(odd, 3)))

    def test_against_trying(self):
        rng = generator(711)
        none = found = 0
        for _ in range(800):
            many = rng.randint(1, 4)
            wishes = []
            for _ in range(rng.randint(0, 4)):
                row = [0] * many
                for at in rng.sample(range(many), min(many, rng.randint(1, 2))):
                    row[at] = rng.choice((1, -1))
                wishes.append(("sum", tuple(row), rng.random() < 0.3, rng.randint(-2, 2)))
            task = task_of(wishes, many)
            turns, wanted = turns_of(task), self.plain_turns(task)
            if not wanted:
                none += 1
                self.assertIsNone(turns)
            else:
                found += 1
                self.assertIn(turns, wanted)
        self.assertGreater(min(none, found), 50)


class ThresholdsTest(unittest.TestCase):
    def difference_task(self, rng):
        """Some difference task with turns, whose starts are combinations of points that keep it."""
        many = rng.randint(1, 4)
        turns = [rng.choice((1, -1)) for _ in range(many)]
        point = [rng.randint(0, 4) for _ in range(many)]
        wishes = []
        for _ in range(rng.randint(0, 4)):
            row = [0] * many
            chosen = rng.sample(range(many), min(many, rng.randint(1, 2)))
            for at, sign in zip(chosen, (1, -1)):
                row[at] = turns[at] * sign if len(chosen) == 2 else rng.choice((1, -1))
            equal = rng.random() < 0.2
            wishes.append(("sum", tuple(row), equal, total(row, point) - (0 if equal else rng.randint(0, 2))))
        return task_of(wishes, many, tuple(rng.randint(-3, 3) for _ in range(many)))

    def test_example(self):
        task = Task((("x", 0, 4), ("y", 0, 4)), (("sum", (1, -1), False, -1),), (2, -1))
        start = ((1, 2), (4, 3))
        self.assertEqual(best_threshold(task=task, start=start), (0, 1))
        self.assertEqual(threshold_points(start=start, turns=(1, 1)), (
            ((1, 3), (1, 2)), ((1, 2), (1, 1)), ((1, 1), (0, 1))))

    def test_rounded_at(self):
        start = ((1, 2), (-1, 3), (3, 1), (-7, 4))
        for turns, threshold, wanted in (
                ((1, 1, 1, 1), (1, 2), (1, 0, 3, -2)), ((1, 1, 1, 1), (2, 3), (0, 0, 3, -2)), ((1, 1, 1, 1), (1, 4), (1, 0, 3, -1)),
                ((1, 1, 1, 1), (3, 4), (0, -1, 3, -2)), ((-1, -1, -1, -1), (1, 2), (0, 0, 3, -2)),
                ((-1, -1, -1, -1), (1, 3), (0, -1, 3, -2)), ((1, 1, -1, 1), (1, 1), (0, -1, 3, -2)),
                ((1, 1, 1, 1), (1, 1000000), (1, 0, 3, -1)), ((-1, 1, 1, -1), (3, 4), (1, -1, 3, -2))):
            self.assertEqual(rounded_at(start=start, turns=turns, threshold=threshold), wanted, (turns, threshold))

    def test_thresholds(self):
        rng = generator(712)
        for _ in range(500):
            many = rng.randint(1, 4)
            start = some_start(rng, many, -2, 3)
            turns = tuple(rng.choice((1, -1)) for _ in range(many))
            told = threshold_points(start, turns)
            self.assertIsInstance(told, tuple)
            excesses = {turn * fraction(value) % 1 for value, turn in zip(start, turns)}
            wanted = sorted((excesses - {0}) | {1})
            self.assertEqual([fraction(threshold) for threshold, _ in told], wanted)
            self.assertEqual([pair(item) for item in wanted], [threshold for threshold, _ in told])
            before, mean = 0, [Fraction(0)] * many
            for threshold, point in told:
                self.assertEqual(point, rounded_at(start, turns, threshold))
                mean = [one + (fraction(threshold) - before) * value for one, value in zip(mean, point)]
                before = fraction(threshold)
            self.assertEqual(mean, [fraction(value) for value in start])

    def test_difference_tasks(self):
        rng = generator(713)
        seen = fractions = 0
        for _ in range(800):
            task = self.difference_task(rng)
            turns = turns_of(task)
            self.assertIsNotNone(turns)
            kept = [point for point in points_of(box_of(task)) if holds_all(task, point)]
            parts = [rng.choice(kept) for _ in range(3)]
            start = tuple(pair(Fraction(2 * a + b + 3 * c, 6)) for a, b, c in zip(*parts))
            self.assertTrue(keeps_rows(task, start))
            seen += 1
            points = threshold_points(start, turns)
            fractions += len(points) > 1
            for _, point in points:
                self.assertTrue(holds_all(task, point), (task.wishes, start, point))
            best = best_threshold(task, start)
            worths = [total(task.goal, point) for _, point in points]
            self.assertEqual(best, points[worths.index(min(worths))][1])
            self.assertLessEqual(min(worths), total(task.goal, [fraction(value) for value in start]))
            answer = relaxed(task, (), box_of(task))
            found = best_threshold(task, answer[1])
            self.assertEqual(total(task.goal, found), min(total(task.goal, point) for point in kept))
        self.assertGreater(fractions, 200)

    def test_limits(self):
        many = 40
        wishes = tuple(("sum", tuple(int(at == k) - int(at == k + 1) for at in range(many)), False, -1) for k in range(many - 1))
        task = task_of(wishes, many, (BIG,) * many, -BIG, BIG)
        start = tuple((at * (BIG - 1) + 1, BIG) for at in range(0, many))
        start = tuple(pair(Fraction(top, bottom)) for top, bottom in start)
        self.assertEqual(turns_of(task), (1,) * many)
        self.assertEqual(len(threshold_points(start, (1,) * many)), many)
        self.assertTrue(holds_all(task, best_threshold(task, start)))


if __name__ == "__main__":
    unittest.main()
