"""Point 55: tables over boxes."""

import unittest

from paperbest.tables import lots_left, table_box, table_draws, table_left, table_point
from paperbest.tasks import Task
from tests.test_crowds import check_number
from tests.tools import (
    KINDS, after_draws, generator, holds, hull, leaf_is_right, made_box, made_wish, points_of, some_names)

BIG = 10 ** 6
CALLS = (lots_left, table_left, table_point, table_box, table_draws)


def task_of(wish, many, before=()):
    return Task(tuple((name, 0, 1) for name in some_names(many)), tuple(before) + (wish,), (0,) * many)


class TablesTest(unittest.TestCase):
    def check(self, task, box):
        number = len(task.wishes) - 1
        wish = task.wishes[number]
        kept = [point for point in points_of(box) if holds(wish, point)]
        left = lots_left(task, number, box)
        self.assertEqual(left, tuple(at for at, lot in enumerate(wish[2]) if all(
            box[place][0] <= item <= box[place][1] for place, item in zip(wish[1], lot))))
        self.assertEqual(bool(left), bool(kept))
        if not kept:
            self.assertIsNone(table_left(task, number, box))
            self.assertIsNone(table_point(task, number, box))
            self.assertIsNone(table_box(task, number, box))
            self.assertEqual(table_draws(task, number, box), ("leaf", ("out", number)))
            self.assertTrue(leaf_is_right(task, (), box, ("out", number)))
            return 0
        alone = table_left(task=task, number=number, box=box)
        self.assertEqual(alone, ("table", wish[1], tuple(wish[2][at] for at in left)))
        self.assertEqual([point for point in points_of(box) if holds(alone, point)], kept)
        point = table_point(task=task, number=number, box=box)
        self.assertIn(point, kept)
        self.assertTrue(all(point[at] == box[at][0] for at in range(len(box)) if at not in wish[1]))
        least = table_box(task=task, number=number, box=box)
        self.assertEqual(least, hull(kept))
        draws = table_draws(task=task, number=number, box=box)
        self.assertEqual(after_draws(task, (), box, draws), least)
        self.assertEqual([draw[:2] for draw in draws], [
            (at, side) for at in range(len(box)) for side in (0, 1) if box[at][side] != least[at][side]])
        self.assertTrue(all(draw[3] == ("out", number) for draw in draws))
        return len(left)

    def test_example_of_the_document(self):
        task = Task((("x", 0, 5), ("y", 0, 5), ("z", 0, 5)), (
            ("unlike", (0, 1, 2)), ("table", (2, 0), ((1, 4), (3, 0), (5, 5)))), (2, 1, 2))
        box = ((0, 4), (0, 5), (0, 9))
        self.assertEqual(lots_left(task=task, number=1, box=box), (0, 1))
        self.assertEqual(table_box(task, 1, box), ((0, 4), (0, 5), (1, 3)))
        self.assertEqual(table_draws(task, 1, box), ((2, 0, 1, ("out", 1)), (2, 1, 3, ("out", 1))))
        self.assertEqual(table_point(task, 1, ((0, 3), (2, 5), (0, 9))), (0, 2, 3))

    def test_against_trying(self):
        rng = generator(550)
        seen = {}
        for _ in range(1500):
            many = rng.randint(2, 4)
            before = [made_wish(rng, many, rng.choice(KINDS)) for _ in range(rng.randint(0, 2))]
            wish = made_wish(rng, many, "table")
            left = self.check(task_of(wish, many, before), made_box(rng, many, -2, 3, 4))
            case = "none" if left == 0 else "all" if left == len(wish[2]) else "one" if left == 1 else "some"
            seen[case] = seen.get(case, 0) + 1
        self.assertEqual(set(seen), {"none", "all", "one", "some"})
        self.assertGreater(min(seen.values()), 30)

    def test_numbers(self):
        wishes = tuple(made_wish(generator(551), 3, kind) for kind in KINDS)
        task = Task(tuple((name, 0, 1) for name in some_names(3)), wishes, (0, 0, 0))
        check_number(self, CALLS, task, (KINDS.index("table"),))

    def test_limits(self):
        rng = generator(552)
        lots = tuple(sorted({tuple(rng.randint(-BIG, BIG) for _ in range(40)) for _ in range(400)}))
        task = task_of(("table", tuple(range(39, -1, -1)), lots), 40)
        box = ((-BIG, BIG),) * 40
        self.assertEqual(lots_left(task, 0, box), tuple(range(400)))
        self.assertEqual(table_left(task, 0, box), task.wishes[0])
        self.assertEqual(table_box(task, 0, box), tuple(reversed(hull(lots))))
        self.assertEqual(len(table_draws(task, 0, box)), 80)
        single = tuple((item, item) for item in reversed(lots[7]))
        self.assertEqual(table_point(task, 0, single), tuple(reversed(lots[7])))
        self.assertEqual(table_draws(task, 0, single), ())
        # Beyond the ends of the task, and beyond all lots.
        self.assertEqual(table_draws(task, 0, ((BIG + 1, 2 * BIG),) * 40), ("leaf", ("out", 0)))


if __name__ == "__main__":
    unittest.main()
