"""Points 64, 65 and 67: boxes as nodes."""

import unittest
from fractions import Fraction

from paperbest import nodes
from paperbest.errors import Refused
from paperbest.tasks import Task
from tests.tools import (
    KINDS, generator, holds, made_box, made_wish, names_in, pair, points_of, some_names)

BIG = 10 ** 6


def made_task(rng):
    many = rng.randint(2, 3)
    unknowns = tuple((name, -9, 9) for name in some_names(many))
    return Task(unknowns, tuple(made_wish(rng, many, rng.choice(KINDS)) for _ in range(rng.randint(0, 4))), (0,) * many)


class BoxesTest(unittest.TestCase):
    def test_point_count(self):
        for box, wanted in ((((0, 9),), 10), (((0, 9), (-3, 3)), 70), (((5, 5), (-5, -5)), 1),
                            (((-BIG, BIG),) * 40, (2 * BIG + 1) ** 40)):
            self.assertEqual(nodes.point_count(box=box), wanted)

    def test_bounds(self):
        task = Task((("x", 0, 9), ("y", -3, 4), ("z", 5, 5)), (), (0, 0, 0))
        self.assertEqual(nodes.most_nodes(task=task), 159)
        self.assertEqual(nodes.most_depth(task=task, halving=0), 7)
        self.assertEqual(nodes.most_depth(task, 40), 47)
        self.assertEqual(nodes.most_nodes(Task((("x", 7, 7),), (), (0,))), 1)
        self.assertEqual(nodes.most_depth(Task((("x", 7, 7),), (), (0,)), 3), 3)
        self.assertEqual(nodes.most_depth(Task((("x", 7, 8),), (), (0,)), 3), 4)
        self.assertEqual(nodes.most_depth(Task((("x", -BIG, BIG),), (), (0,)), 0), 21)

    def test_whole_points(self):
        point = ((1, 2), (-3, 1), (0, 1), (-7, 3))
        self.assertEqual(nodes.unwhole_places(point=point), (0, 3))
        self.assertIsNone(nodes.whole_point(point=point))
        self.assertEqual(nodes.unwhole_places(point[1:3]), ())
        self.assertEqual(nodes.whole_point(point[1:3]), (-3, 0))

    def test_first_broken(self):
        rng = generator(640)
        found = set()
        for _ in range(300):
            task = made_task(rng)
            point = tuple(rng.randint(-2, 4) for _ in task.unknowns)
            wanted = next((k for k, wish in enumerate(task.wishes) if not holds(wish, point)), None)
            self.assertEqual(nodes.first_broken(task=task, point=point), wanted)
            found.add(wanted)
        self.assertEqual(found, {None, 0, 1, 2, 3})

    def test_settled_wish(self):
        rng = generator(641)
        found = set()
        for _ in range(800):
            task = made_task(rng)
            box = made_box(rng, len(task.unknowns), -1, 3, rng.choice((0, 1, 1)))
            point = tuple(low for low, _ in box)
            wanted = next((k for k, wish in enumerate(task.wishes) if not holds(wish, point)
                           and all(box[at][0] == box[at][1] for at in names_in(wish))), None)
            self.assertEqual(nodes.settled_wish(task=task, box=box), wanted)
            found.add(wanted)
        self.assertEqual(found, {None, 0, 1, 2, 3})

    def test_boxes_around(self):
        rng = generator(642)
        for _ in range(200):
            box = made_box(rng, rng.randint(1, 3), width=3)
            point = tuple(rng.randint(low, high) for low, high in box)
            told = nodes.boxes_around(box=box, point=point)
            self.assertIsInstance(told, tuple)
            inner = [other for part in told for other in points_of(part)]
            self.assertEqual(sorted(inner + [point]), sorted(points_of(box)))
        self.assertEqual(nodes.boxes_around(((3, 3),), (3,)), ())
        wide = nodes.boxes_around(((-BIG, BIG),) * 40, (0,) * 40)
        self.assertEqual(sum(nodes.point_count(part) for part in wide), (2 * BIG + 1) ** 40 - 1)


class SplitTest(unittest.TestCase):
    def check_parts(self, box, place):
        at, k = place
        low, high = box[at]
        self.assertTrue(low <= k < high, (box, place))

    def test_fractions(self):
        rng = generator(650)
        for _ in range(400):
            task = made_task(rng)
            box = made_box(rng, len(task.unknowns))
            point = [Fraction(rng.randint(low * 6, high * 6), 6) for low, high in box]
            if all(value.denominator == 1 for value in point):
                continue
            at, k = nodes.split_place(task=task, box=box, point=tuple(pair(value) for value in point))
            self.assertNotEqual(point[at].denominator, 1)
            self.assertTrue(k < point[at] < k + 1)
            self.check_parts(box, (at, k))

    def test_broken_wishes(self):
        rng = generator(651)
        words = []
        for _ in range(1500):
            task = made_task(rng)
            box = made_box(rng, len(task.unknowns), -1, 3, rng.choice((0, 1, 3)))
            point = tuple(rng.randint(low, high) for low, high in box)
            first = next((wish for wish in task.wishes if not holds(wish, point)), None)
            wide = [] if first is None else [at for at in names_in(first) if box[at][0] < box[at][1]]
            fractions = tuple((value, 1) for value in point)
            if not wide:
                with self.assertRaises(Refused) as caught:
                    nodes.split_place(task, box, fractions)
                self.assertEqual(caught.exception.word, "kept" if first is None else "settled")
                words.append(caught.exception.word)
                continue
            at, k = nodes.split_place(task, box, fractions)
            self.assertIn(at, wide)
            self.assertIn(k, (point[at], point[at] - 1))
            self.check_parts(box, (at, k))
        self.assertGreater(min(words.count("kept"), words.count("settled")), 50)

    def test_fraction_beside_a_broken_wish(self):
        task = Task((("x", 0, 9), ("y", 0, 9)), (("sum", (1, 0), False, 5),), (0, 0))
        self.assertEqual(nodes.split_place(task, ((0, 9), (0, 9)), ((1, 1), (7, 2))), (1, 3))
        self.assertEqual(nodes.split_place(task, ((0, 9), (-9, 9)), ((1, 1), (-7, 2))), (1, -4))

    def test_halving(self):
        for box, wanted in ((((0, 9),), (0, 4)), (((0, 8),), (0, 3)), (((0, 1),), (0, 0)), (((-1, 0), (3, 5)), (1, 3)),
                            (((2, 2), (-5, -3), (0, 2)), (1, -5)), (((0, 3), (-9, -6)), (0, 1)),
                            (((-BIG, BIG),) * 40, (0, -1))):
            self.assertEqual(nodes.halving_place(box=box), wanted)
        for box in (((3, 3),), ((3, 3), (-BIG, -BIG))):
            with self.assertRaises(Refused) as caught:
                nodes.halving_place(box)
            self.assertEqual(caught.exception.word, "settled")
        rng = generator(652)
        for _ in range(200):
            box = made_box(rng, 3)
            if any(low < high for low, high in box):
                at, k = nodes.halving_place(box)
                self.check_parts(box, (at, k))
                low, high = box[at]
                self.assertEqual(high - low, max(other - one for one, other in box))
                self.assertIn((k - low + 1) - (high - k), (0, -1))

    def test_reaches(self):
        for bound, known, wanted in (((5, 2), 3, True), ((5, 2), 4, False), ((3, 1), 3, True), ((3, 1), 4, False),
                                     ((-5, 2), -2, True), ((-5, 2), -1, False), ((-1, 9), 0, True), ((1, 9), 1, True)):
            self.assertIs(nodes.reaches(bound=bound, known=known), wanted)


if __name__ == "__main__":
    unittest.main()
