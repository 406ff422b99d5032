"""Points 85 and 86: how many rounds there are, and points or trees."""

import math
import time
import unittest

from paperbest.errors import Refused
from paperbest.rings import round_draws, round_rests
from paperbest.tasks import Task
from paperbest.tours import round_answer, round_count, round_shaves
from tests.test_crowds import check_number
from tests.tools import (
    KINDS, changed, generator, holds, hull, left_out, made_box, made_wish, nodes_of, points_of, some_names,
    tree_is_right)

CALLS = (round_count, round_answer, round_shaves)


def task_of(places, many, before=()):
    return Task(tuple((name, 0, 1) for name in some_names(many)), tuple(before) + (("round", places),), (0,) * many)


class ToursTest(unittest.TestCase):
    def check_tree(self, task, box, tree):
        number = len(task.wishes) - 1
        places = task.wishes[number][1]
        self.assertTrue(tree_is_right(task, (), box, tree))
        leaves = 0
        for _, node in nodes_of(box, tree):
            if node[0] == "split":
                self.assertIn(node[1], places)
            else:
                leaves += 1
                self.assertIn(node[0], ("crowd", "ring"))
                self.assertEqual(node[1], number)
        tuples = math.prod(max(0, min(box[at][1], len(places) - 1) - max(box[at][0], 0) + 1) for at in places)
        self.assertLessEqual(leaves, tuples + 2 * len(places))
        return leaves

    def check_shaves(self, task, box, kept):
        number = len(task.wishes) - 1
        draws = round_shaves(task=task, number=number, box=box)
        if not kept:
            self.assertEqual((draws[0], len(draws)), ("tree", 2))
            self.check_tree(task, box, draws[1])
            return
        named = task.wishes[number][1]
        least = hull(kept)
        for draw in draws:
            out, after = left_out(box, draw)
            self.check_tree(task, out, draw[3])
            box = after
        self.assertEqual([box[at] for at in named], [least[at] for at in named])
        self.assertEqual(box, least)
        self.assertEqual(len({draw[:2] for draw in draws}), len(draws))

    def check(self, task, box):
        number = len(task.wishes) - 1
        wish = task.wishes[number]
        kept = [point for point in points_of(box) if holds(wish, point)]
        inner = {tuple(point[at] for at in wish[1]) for point in kept}
        self.assertEqual(round_count(task=task, number=number, box=box), len(inner))
        told = round_answer(task=task, number=number, box=box)
        self.assertEqual(len(told), 2)
        self.assertEqual(told[0], "point" if kept else "tree")
        self.check_shaves(task, box, kept)
        if kept:
            self.assertIn(told[1], kept)
            return 0
        return self.check_tree(task, box, told[1])

    def test_examples(self):
        task = task_of((0, 1, 2), 3)
        self.assertEqual(round_answer(task, 0, ((0, 1), (0, 2), (0, 1))), ("point", (1, 2, 0)))
        self.assertEqual(round_answer(task, 0, ((0, 1), (0, 2), (1, 2)))[0], "tree")
        self.assertEqual(round_count(task, 0, ((0, 2), (0, 2), (0, 2))), 2)
        self.assertEqual(round_count(task, 0, ((1, 9), (-4, 2), (0, 0))), 1)

    def test_against_trying(self):
        rng = generator(860)
        most, some = 0, 0
        for _ in range(1500):
            many = rng.randint(2, 5)
            places = tuple(sorted(rng.sample(range(many), rng.randint(2, many))))
            before = [made_wish(rng, many, rng.choice(KINDS)) for _ in range(rng.randint(0, 2))]
            box = made_box(rng, many, -2, many - 1, rng.choice((1, 2, 3, 4)))
            leaves = self.check(task_of(places, many, before), box)
            most = max(most, leaves)
            some += leaves == 0
        self.assertGreater(some, 100)
        self.assertGreater(most, 5)

    def test_all_of_few(self):
        task = task_of((0, 1, 2), 3)
        pairs = [(low, high) for low in range(-1, 4) for high in range(low, 4)]
        for one in pairs:
            for other in pairs[::2]:
                for last in pairs[1::3]:
                    self.check(task, (one, other, last))
        task = task_of((0, 1), 2)
        for one in pairs:
            for other in pairs:
                self.check(task, (one, other))

    def test_boxes_that_rest_without_a_round(self):
        # Draws alone do not show that these have no round, so their trees have splits of their own.
        for box in (((0, 3), (4, 5), (0, 0), (2, 4), (3, 5), (0, 2)), ((3, 5), (0, 2), (1, 4), (2, 5), (0, 1), (4, 4)),
                    ((5, 5), (0, 2), (1, 3), (2, 5), (0, 1), (3, 4)), ((3, 5), (0, 3), (1, 3), (5, 6), (0, 1), (6, 6), (2, 4)),
                    ((4, 6), (7, 7), (2, 4), (1, 4), (3, 5), (6, 6), (0, 1), (0, 3)),
                    ((3, 6), (6, 7), (1, 4), (2, 2), (3, 6), (0, 3), (5, 7), (1, 3)),
                    ((-2, 3), (4, 9), (0, 0), (2, 4), (3, 9), (-1, 2))):
            task = task_of(tuple(range(len(box))), len(box))
            inner = box
            for draw in round_draws(task, 0, box):
                inner = left_out(inner, draw)[1]
            self.assertTrue(round_rests(task, 0, inner))
            self.assertGreater(self.check(task, box), 1)

    def test_counts(self):
        rng = generator(861)
        for many in range(2, 11):
            task = task_of(tuple(range(many)), many)
            self.assertEqual(round_count(task, 0, ((0, many - 1),) * many), math.factorial(many - 1))
            self.assertEqual(round_count(task, 0, ((-9, 99),) * many), math.factorial(many - 1))
            for _ in range(3):
                box = made_box(rng, many, -1, 2, many)
                at = rng.randrange(many)
                low, high = box[at]
                if low < high:
                    k = rng.randint(low, high - 1)
                    self.assertEqual(round_count(task, 0, box), sum(
                        round_count(task, 0, changed(box, at, pair)) for pair in ((low, k), (k + 1, high))))

    def test_refusals(self):
        wishes = tuple(made_wish(generator(862), 3, kind) for kind in KINDS)
        task = Task(tuple((name, 0, 1) for name in some_names(3)), wishes, (0, 0, 0))
        check_number(self, CALLS, task, (KINDS.index("round"),))
        for many, refused in ((10, False), (11, True), (40, True)):
            task = task_of(tuple(range(many)), many, [("unlike", (0, 1))])
            for call in CALLS:
                with self.assertRaises(Refused) as caught:
                    call(task, 0, ((0, 3),) * many)
                self.assertEqual(caught.exception.word, "wish")
                if refused:
                    with self.assertRaises(Refused) as caught:
                        call(task, 1, ((0, 3),) * many)
                    self.assertEqual(caught.exception.word, "size")
                else:
                    call(task, 1, ((0, 3),) * many)

    def test_long_rounds(self):
        rng = generator(863)
        start, trees = time.time(), 0
        for _ in range(60):
            many = rng.randint(8, 10)
            task = task_of(tuple(range(many)), many)
            box = tuple((low, min(many - 1, low + rng.randint(0, 5))) for low in [rng.randint(0, many - 2) for _ in range(many)])
            told = round_answer(task, 0, box)
            self.assertEqual(told[0] == "tree", round_count(task, 0, box) == 0)
            if told[0] == "tree":
                trees += 1
                self.check_tree(task, box, told[1])
            else:
                self.assertTrue(holds(task.wishes[0], told[1]))
        # Two halves that only one unknown can leave.
        box = ((0, 4),) * 4 + ((0, 9),) + ((5, 9),) * 5
        task = task_of(tuple(range(10)), 10)
        self.check_tree(task, box, round_answer(task, 0, box)[1])
        box = ((0, 4),) * 4 + ((0, 9),) + ((5, 9),) * 4 + ((0, 9),)
        for at, side, end, tree in round_shaves(task, 0, box):
            out, after = left_out(box, (at, side, end, tree))
            self.check_tree(task, out, tree)
            self.assertEqual(round_count(task, 0, out), 0)
            box = after
        self.assertEqual((box[4], box[9]), ((5, 8), (0, 3)))
        self.assertGreater(trees, 5)
        self.assertLess(time.time() - start, 60)


if __name__ == "__main__":
    unittest.main()
