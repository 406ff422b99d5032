"""Splits that are likely to help: they are splits of the box, and resolve what is broken where they can."""

import unittest

from paperbest.benches import job_windows
from paperbest.drawing import drawn
from paperbest.likely import jobs_too_many, likely_place
from paperbest.nodes import first_broken, settled_wish, split_place
from paperbest.tasks import Task, box_of
from paperbest.tree import likely_search
from tests.tools import KINDS, answer_is_right, changed, generator, holds, kept_points_of, load, size, some_names, some_task, total


class LikelyTest(unittest.TestCase):
    def test_all_kinds(self):
        rng = generator(670)
        others = {}
        for _ in range(2500):
            task = some_task(rng, rng.randint(2, 4), KINDS, 3, 6)
            box = tuple((low, rng.randint(low, high)) for low, high in box_of(task))
            ends = rng.random()
            point = tuple(rng.choice(pair) if rng.random() < ends else rng.randint(*pair) for pair in box)
            number = first_broken(task, point)
            if settled_wish(task, box) is not None:
                continue
            spot = tuple((value, 1) for value in point)
            if rng.random() < 0.2:
                at = rng.randrange(len(box))
                if box[at][0] < box[at][1]:
                    spot = changed(spot, at, (2 * box[at][0] + 1, 2))
                    self.assertEqual(likely_place(task=task, box=box, spot=spot), split_place(task, box, spot))
                    continue
            if number is None:
                continue
            at, k = likely_place(task, box, spot)
            self.assertTrue(box[at][0] <= k < box[at][1])
            kind = task.wishes[number][0]
            others[kind] = others.get(kind, 0) + ((at, k) != split_place(task, box, spot))
            if kind in ("bench", "room"):
                jobs = jobs_too_many(task.wishes[number], point)
                self.assertTrue(sum(job[2] for job in jobs) > size(task.wishes[number]))
                self.assertTrue(any(load(task.wishes[number], point, moment) >= sum(job[2] for job in jobs) for moment in range(-20, 20)))
        self.assertEqual({kind for kind in others if others[kind]}, {"bench", "room", "either"})

    def test_what_is_resolved(self):
        task = Task((("x", 0, 99), ("y", 0, 99)), (("bench", ((0, 30), (1, 50))),), (1, 1))
        at, k = likely_place(task, box_of(task), ((0, 1), (0, 1)))
        self.assertIn((at, k), ((0, 49), (1, 29)))
        # On the lower side one job comes first, and the other one is drawn behind it.
        box = changed(box_of(task), at, (0, k))
        self.assertEqual(drawn(task, box, passes=1)[1][1 - at][0], (30, 50)[at])
        self.assertEqual(len(job_windows(task, 0, box)), 2)
        either = Task((("x", 0, 9), ("y", 0, 9)), (("either", (("sum", (1, 0), False, 4), ("sum", (0, -2), False, -5))),), (1, -1))
        self.assertEqual(likely_place(either, box_of(either), ((0, 1), (9, 1))), (0, 3))
        self.assertEqual(drawn(either, ((0, 3), (0, 9)), passes=1)[1], ((0, 3), (0, 2)))

    def test_searches(self):
        rng = generator(671)
        for _ in range(400):
            task = some_task(rng, rng.randint(1, 4), KINDS, 4, 5)
            kept = kept_points_of(task)
            answer = likely_search(task, passes=rng.randint(0, 2), halving=rng.choice((0, 2, 40)), known=rng.choice(kept) if kept and rng.random() < 0.3 else None)
            self.assertTrue(answer_is_right(task, answer))
            self.assertEqual(getattr(answer, "worth", None), min((total(task.goal, point) for point in kept), default=None))
            self.assertTrue(not kept or all(holds(wish, answer.point) for wish in task.wishes))
        many = Task(tuple((name, -10 ** 6, 10 ** 6) for name in some_names(20)), tuple(
            ("bench", ((at, 1000 + at), (at + 10, 2000 - at))) for at in range(10)), (1,) * 10 + (2,) * 10)
        answer = likely_search(many)
        self.assertEqual(answer.worth, -30 * 10 ** 6 + sum(2000 - at for at in range(10)))


if __name__ == "__main__":
    unittest.main()
