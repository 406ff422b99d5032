"""Point 54: values that unknowns lose by an unlike or a table."""

import unittest

from paperbest.errors import Refused
from paperbest.lost import lost_values, value_leaf, value_point
from paperbest.tasks import Task
from tests.tools import (
    KINDS, changed, generator, holds, leaf_is_right, made_box, made_wish, odd_values, points_of, some_names)

BIG = 10 ** 6


def task_of(wish, many, before=()):
    return Task(tuple((name, 0, 1) for name in some_names(many)), tuple(before) + (wish,), (0,) * many)


def stretches(values):
    """Ascending integers as stretches, as long as can be."""
    found = []
    for value in values:
        if found and found[-1][1] == value - 1:
            found[-1] = (found[-1][0], value)
        else:
            found.append((value, value))
    return tuple(found)


class LostTest(unittest.TestCase):
    def check(self, task, box, place):
        number = len(task.wishes) - 1
        wish = task.wishes[number]
        low, high = box[place]
        kept = [point for point in points_of(box) if holds(wish, point)]
        taken = {point[place] for point in kept}
        lost = [value for value in range(low, high + 1) if value not in taken]
        self.assertEqual(lost_values(task=task, number=number, box=box, place=place), stretches(lost))
        for value in range(low - 2, high + 3):
            point = value_point(task=task, number=number, box=box, place=place, value=value)
            self.assertEqual(point is not None, value in taken)
            if point is not None:
                self.assertIn(point, kept)
                self.assertEqual(point[place], value)
                self.assertTrue(all(point[at] == box[at][0] for at in range(len(box)) if at not in wish[1]))
            if low <= value <= high:
                leaf = value_leaf(task=task, number=number, box=box, place=place, value=value)
                self.assertEqual(leaf is None, point is not None)
                if leaf is not None:
                    self.assertEqual(leaf[0], "crowd" if wish[0] == "unlike" else "out")
                    self.assertTrue(leaf_is_right(task, (), changed(box, place, (value, value)), leaf))
                    if leaf[0] == "crowd":
                        self.assertEqual(len(leaf[2]), leaf[4] - leaf[3] + 2)
        return lost, (low, high)

    def test_against_trying(self):
        rng = generator(540)
        seen = {}
        for _ in range(900):
            many = rng.randint(2, 5)
            kind = rng.choice(("unlike", "table"))
            before = [made_wish(rng, many, rng.choice(KINDS)) for _ in range(rng.randint(0, 2))]
            task = task_of(made_wish(rng, many, kind), many, before)
            lost, pair = self.check(task, made_box(rng, many, -1, 3, 4), rng.choice(task.wishes[-1][1]))
            case = "none" if not lost else "all" if len(lost) == pair[1] - pair[0] + 1 else (
                "between" if len(stretches(lost)) > 1 else "low" if pair[0] in lost else "high" if pair[1] in lost else "inner")
            seen[(kind, case)] = seen.get((kind, case), 0) + 1
        for kind in ("unlike", "table"):
            for case in ("none", "all", "between", "low", "high", "inner"):
                # Two stretches of an unlike are rare; the next test has some.
                least = 0 if (kind, case) == ("unlike", "between") else 3
                self.assertGreaterEqual(seen.get((kind, case), 0), least, (kind, case, seen))

    def test_stretches_that_touch(self):
        task = task_of(("unlike", (0, 1, 2, 3, 4)), 5)
        box = ((0, 9), (2, 3), (2, 3), (4, 4), (7, 7))
        self.assertEqual(lost_values(task, 0, box, 0), ((2, 4), (7, 7)))
        self.assertEqual(lost_values(task, 0, changed(box, 0, (3, 7)), 0), ((3, 4), (7, 7)))
        self.assertEqual(lost_values(task, 0, changed(box, 0, (4, 4)), 0), ((4, 4),))
        self.assertEqual(lost_values(task, 0, changed(box, 4, (4, 4)), 0), ((0, 9),))
        self.assertEqual(lost_values(task, 0, box, 4), ())
        for place in range(5):
            self.check(task, box, place)
        table = task_of(("table", (1, 0), ((0, 3), (0, 4), (1, 6))), 2)
        self.assertEqual(lost_values(table, 0, ((0, 9), (0, 1)), 0), ((0, 2), (5, 5), (7, 9)))
        self.assertEqual(lost_values(table, 0, ((4, 9), (0, 0)), 0), ((5, 9),))
        self.assertEqual(lost_values(table, 0, ((5, 5), (0, 0)), 0), ((5, 5),))

    def test_refusals(self):
        wishes = tuple(made_wish(generator(541), 4, kind) for kind in KINDS)
        wishes = changed(changed(wishes, 1, ("unlike", (1, 3))), 2, ("table", (3, 0), ((0, 0),)))
        task = Task(tuple((name, 0, 1) for name in some_names(4)), wishes, (0,) * 4)
        box = ((0, 1),) * 4
        calls = (lambda number, place: value_point(task, number, box, place, 0),
                 lambda number, place: value_leaf(task, number, box, place, 0),
                 lambda number, place: lost_values(task, number, box, place))
        for call in calls:
            for number in odd_values() + list(range(-2, 9)):
                right = isinstance(number, int) and not isinstance(number, bool) and number in (1, 2)
                named = ((), (1, 3), (0, 3))[number] if right else ()
                for place in [0, 1, 2, 3, 4, -1] + ([True, None, "x", (1,)] if right else []):
                    if not isinstance(place, bool) and place in named:
                        call(number, place)
                        continue
                    with self.assertRaises(Refused) as caught:
                        call(number, place)
                    self.assertEqual(caught.exception.word, "place" if right else "wish")

    def test_limits(self):
        task = task_of(("unlike", tuple(range(40))), 40)
        box = ((-BIG, BIG),) + tuple((3 * at, 3 * at) for at in range(39))
        self.assertEqual(lost_values(task, 0, box, 0), tuple((3 * at, 3 * at) for at in range(39)))
        self.assertIsNone(value_leaf(task, 0, box, 0, BIG))
        self.assertIsNone(value_point(task, 0, box, 0, 114))
        self.assertTrue(leaf_is_right(task, (), changed(box, 0, (114, 114)), value_leaf(task, 0, box, 0, 114)))
        lots = tuple((5 * at, -at) for at in range(399, -1, -1))[::-1]
        table = task_of(("table", (1, 0), lots), 2)
        lost = lost_values(table, 0, ((-BIG, BIG), (0, BIG)), 1)
        self.assertEqual((len(lost), lost[0], lost[-1]), (400, (1, 4), (1996, BIG)))
        self.assertEqual(lost_values(table, 0, ((-BIG, BIG), (0, BIG)), 0), ((-BIG, -400), (1, BIG)))


if __name__ == "__main__":
    unittest.main()
