"""Points 66 to 70: searches over trees of splits, and all points that keep a task."""

import unittest

from paperbest.checker import is_answer
from paperbest.duals import relaxed
from paperbest.errors import InvalidNumber, InvalidPaper, InvalidPoint, Refused
from paperbest.nodes import halving_place, most_depth, most_nodes, point_count, split_place
from paperbest.papers import Best, Nothing, Paper, cut_row, leaves_of, split_box
from paperbest.tasks import Task, box_of
from paperbest.tree import TreeSearch, best_points, kept_points, search
from tests.test_papers import some_multipliers
from tests.tools import (
    KINDS, answer_is_right, fraction, generator, holds_all, kept_points_of, nodes_of, odd_values, plain_cut_rows,
    points_of, some_names, some_task, total, tree_is_right)

BIG = 10 ** 6
TASK = Task((("x", 0, 9), ("y", 0, 9)), (("sum", (2, 2), False, 5), ("unlike", (0, 1))), (3, 2))
HALF = ((("row", 0), (1, 2)),)


def some_papers(rng, task, many=2):
    """Some cuts of a task."""
    papers, rows = (), ()
    for _ in range(many):
        multipliers = some_multipliers(rng, task, rows)
        row = cut_row(task, rows, multipliers)
        if row is not None:
            papers, rows = papers + (multipliers,), rows + (row,)
    return papers


def inside(point, box):
    return all(low <= value <= high for value, (low, high) in zip(point, box))


class StepsTest(unittest.TestCase):
    def check_state(self, steps, task, cuts, kept, halving):
        """What is always shown, behind each step; returns the bound."""
        rows, worth = plain_cut_rows(task, cuts), steps.worth
        self.assertEqual(steps.worth, None if steps.known is None else total(task.goal, steps.known))
        if steps.known is not None:
            self.assertIn(steps.known, kept)
        boxes = steps.open_boxes()
        self.assertIsInstance(boxes, tuple)
        better = [point for point in kept if worth is None or total(task.goal, point) < worth]
        for point in better:
            self.assertEqual(sum(inside(point, box) for box in boxes), 1)
        self.assertEqual(steps.left(), sum(2 * point_count(box) - 1 for box in boxes))
        self.assertLessEqual(steps.made, most_nodes(task))
        self.assertLessEqual(steps.depth, most_depth(task, halving))
        if steps.deep:
            self.assertLessEqual(len(boxes), steps.depth + 1)
        least = [fraction(relaxed(task, rows, box)[2]) for box in boxes]
        wanted = [-(-value.numerator // value.denominator) for value in least] + ([worth] if worth is not None else [])
        bound = steps.bound()
        self.assertEqual(bound, min(wanted, default=None))
        if bound is None:
            self.assertEqual(kept, [])
        else:
            self.assertTrue(all(total(task.goal, point) >= bound for point in kept))
        paper = steps.paper()
        self.assertIsInstance(paper, Paper)
        self.assertEqual(paper.cuts, cuts)
        self.assertTrue(tree_is_right(task, rows, box_of(task), paper.tree, bound))
        # An open node is a leaf.
        leaves = dict(leaves_of(task, paper.tree))
        self.assertTrue(all(leaves[box][0] == "worth" for box in boxes))
        answer = steps.answer()
        self.assertEqual(answer is None, bool(boxes))
        return bound

    def check(self, task, cuts=(), known=None, deep=False, halving=40, passes=2):
        kept = kept_points_of(task)
        steps = TreeSearch(task=task, cuts=cuts, known=known, deep=deep, halving=halving, passes=passes)
        for word, value in (("task", task), ("cuts", cuts), ("deep", deep), ("halving", halving), ("passes", passes)):
            self.assertEqual(getattr(steps, word), value)
        bound = self.check_state(steps, task, cuts, kept, halving)
        left, many = steps.left(), 0
        self.assertEqual(steps.made, 1)
        while True:
            before, last, least = steps.open_boxes(), steps.known, steps.worth
            more = steps.step()
            # A point as good as the known one does not take its place.
            self.assertEqual(last == steps.known, least == steps.worth)
            if not more:
                self.assertIs(more, False)
                break
            # One open box was taken; those made of it come behind all others.
            stayed = [box for box in before if box in steps.open_boxes()]
            self.assertEqual(len(stayed), len(before) - 1)
            self.assertEqual(steps.open_boxes()[:len(stayed)], tuple(stayed))
            if deep:
                self.assertEqual(tuple(stayed), before[:-1])
            self.assertIs(more, True)
            many += 1
            now = self.check_state(steps, task, cuts, kept, halving)
            self.assertLess(steps.left(), left)
            if now is not None and bound is not None:
                self.assertGreaterEqual(now, bound)
            left, bound = steps.left(), now
        self.assertEqual((steps.left(), steps.open_boxes()), (0, ()))
        answer = steps.answer()
        self.assertTrue(answer_is_right(task, answer) and is_answer(task, answer))
        self.assertEqual(isinstance(answer, Best), bool(kept))
        if kept:
            self.assertEqual(answer.worth, min(total(task.goal, point) for point in kept))
        found = search(task=task, cuts=cuts, known=known, deep=deep, halving=halving, passes=passes)
        self.assertTrue(is_answer(task, found))
        self.assertEqual((found.paper.cuts, found.paper.tree), (answer.paper.cuts, answer.paper.tree))
        return many, steps

    def test_splits(self):
        rng = generator(663)
        split = halved = 0
        for at in range(300):
            task = some_task(rng, rng.randint(2, 4), KINDS, 4, 4)
            halving = rng.choice((0, 1, 2, 40))
            steps = TreeSearch(task, deep=True, halving=halving, passes=0)
            while steps.open_boxes():
                box = steps.open_boxes()[-1]
                point, many, above = relaxed(task, (), box)[1], steps.made, self.above(steps, box, task)
                steps.step()
                if steps.made > many:
                    place = halving_place(box) if above >= halving else split_place(task, box, point)
                    sides = split_box(box, *place)
                    tree = [node for inner, node in nodes_of(box_of(task), steps.paper().tree) if inner == box][0]
                    self.assertEqual(tree[:3], ("split",) + place)
                    self.assertLessEqual(set(steps.open_boxes()) - set(sides), set(steps.open_boxes()[:many]))
                    split, halved = split + 1, halved + (above >= halving)
            tree = steps.paper().tree
            self.assertEqual((steps.made, steps.depth), (len(nodes_of(box_of(task), tree)), self.depth(tree)))
        self.assertGreater(split, 200)
        self.assertGreater(halved, 50)

    def depth(self, tree):
        return 1 + max(self.depth(tree[3]), self.depth(tree[4])) if tree[0] == "split" else 0

    def above(self, steps, box, task):
        """How many splits are above the node of an open box, as the paper shows it."""
        tree, inner, above = steps.paper().tree, box_of(task), 0
        while inner != box:
            below, over = split_box(inner, *tree[1:3])
            lower = all(one[0] <= other[0] and other[1] <= one[1] for one, other in zip(below, box))
            tree, inner, above = (tree[3], below, above + 1) if lower else (tree[4], over, above + 1)
        return above

    def test_all_kinds(self):
        rng = generator(660)
        long = deep = 0
        for at in range(700):
            task = some_task(rng, rng.randint(2, 4), KINDS, 4, 4)
            kept = kept_points_of(task)
            best = min(kept, key=lambda point: total(task.goal, point)) if kept else None
            known = rng.choice((None, best, rng.choice(kept))) if kept else None
            cuts = some_papers(rng, task) if rng.random() < 0.3 else ()
            many, steps = self.check(task, cuts, known, at % 2 == 0, rng.choice((0, 1, 3, 40)), rng.choice((0, 0, 1, 2, 9)))
            long, deep = long + (many > 5), max(deep, steps.depth)
        self.assertGreater(long, 40)
        self.assertGreater(deep, 5)

    def test_single_kinds(self):
        rng = generator(661)
        for kind in KINDS:
            for deep in (True, False):
                for _ in range(8):
                    self.check(some_task(rng, 3, (kind,), 3, 4), (), None, deep, 2, 0)

    def test_goals_of_nothing(self):
        rng = generator(662)
        for at in range(60):
            task = some_task(rng, 3, KINDS, 4, 4, goal=0)
            kept = kept_points_of(task)
            self.check(task, (), rng.choice(kept) if kept and at % 3 == 0 else None, at % 2 == 0, 40, at % 3)

    def test_examples(self):
        self.assertEqual(TreeSearch(TASK, passes=0).bound(), 5)
        self.assertEqual(TreeSearch(TASK, cuts=(HALF,), passes=0).bound(), 6)
        self.assertEqual(search(TASK, deep=True).worth, 6)
        steps = TreeSearch(TASK, known=(0, 3))
        self.assertEqual((steps.known, steps.worth), ((0, 3), 6))

    def test_no_points(self):
        task = Task((("x", 0, 3), ("y", 0, 3)), (("sum", (2, 2), True, 5),), (1, 1))
        for deep in (True, False):
            for passes in (0, 2):
                self.check(task, (), None, deep, 40, passes)
        self.assertIsInstance(search(task), Nothing)
        empty = TreeSearch(Task((("x", 0, 3),), (("sum", (1,), False, 4),), (1,)))
        self.assertEqual((empty.bound(), empty.left(), empty.made, empty.depth, empty.step()), (None, 0, 1, 0, False))

    def test_halving(self):
        # With halving from the first split on, wide ranges need few splits one below another.
        task = Task((("x", -BIG, BIG), ("y", -BIG, BIG)), (("unlike", (0, 1)), ("sum", (1, 1), False, 1)), (1, 1))
        for halving in (0, 3):
            steps = TreeSearch(task, halving=halving, deep=True)
            for _ in range(200):
                steps.step()
            self.assertLessEqual(steps.depth, most_depth(task, halving))

    def refused(self, error, value, *args, **more):
        for call in (TreeSearch, search):
            with self.assertRaises(error) as caught:
                call(*args, **more)
            self.assertEqual(getattr(caught.exception, "word", getattr(caught.exception, "at", None)), value)

    def test_errors(self):
        whole = [value for value in odd_values() if isinstance(value, int) and not isinstance(value, bool)]
        for value in odd_values():
            if not isinstance(value, tuple):
                self.refused(InvalidPaper, -1, TASK, cuts=value, known=7, passes="x")
            self.refused(InvalidPaper, 1, TASK, cuts=(HALF, value), known=7, passes="x")
            self.refused(InvalidPoint, 1, TASK, cuts=(HALF,), known=(0, None if value.__class__ is int else value), passes="x")
            if value is not None and not (isinstance(value, tuple) and len(value) == 2):
                self.refused(InvalidPoint, -1, TASK, cuts=(HALF,), known=value, passes="x")
            if not any(value is item for item in whole if item >= 0):
                self.refused(InvalidNumber, "passes", TASK, cuts=(HALF,), known=(0, 3), passes=value)
                self.refused(InvalidNumber, "passes", TASK, passes=value)
        for known in ((0, 2), (3, 3), (0, 10), (-1, 9)):
            self.refused(Refused, "known", TASK, known=known, passes=None)
        self.refused(InvalidPoint, 0, TASK, known=(True, False))
        self.refused(InvalidPaper, 0, TASK, cuts=(((("cut", 0), (1, 1)),),))


class PointsTest(unittest.TestCase):
    def test_all_points(self):
        rng = generator(700)
        some = 0
        for _ in range(400):
            task = some_task(rng, rng.randint(1, 4), KINDS, 4, 4)
            kept = kept_points_of(task)
            least = min((total(task.goal, point) for point in kept), default=None)
            best = [point for point in kept if total(task.goal, point) == least]
            some += len(best) > 1
            for call, wanted in ((kept_points, kept), (best_points, best)):
                for most in (len(wanted), len(wanted) + 1, 10 ** 9):
                    self.assertEqual(call(task=task, most=most), tuple(wanted))
                if wanted:
                    for most in (0, len(wanted) - 1):
                        with self.assertRaises(Refused) as caught:
                            call(task, most)
                        self.assertEqual(caught.exception.word, "many")
        self.assertGreater(some, 50)

    def test_example(self):
        self.assertEqual(best_points(TASK, 9), ((0, 3),))
        self.assertEqual(best_points(Task((("x", 0, 3),), (("sum", (2,), True, 3),), (0,)), 0), ())

    def test_wide_ranges(self):
        task = Task((("x", -BIG, BIG), ("y", -BIG, BIG)), (("sum", (3, -2), True, 1), ("sum", (-1, 0), False, -4), ("sum", (0, 1), False, 3)), (0, 1))
        self.assertEqual(kept_points(task, 5), ((3, 4),))
        with self.assertRaises(Refused):
            kept_points(Task(task.unknowns, (), (0, 0)), 100)
        many = Task(tuple((name, 0, 1) for name in some_names(40)), (("sum", (1,) * 40, False, 39),), (1,) * 40)
        self.assertEqual(len(kept_points(many, 41)), 41)
        self.assertEqual(len(best_points(many, 40)), 40)
        unlike = Task(tuple((name, 0, 39) for name in some_names(40)), (("unlike", tuple(range(40))),), (0,) * 40)
        self.assertTrue(holds_all(unlike, search(unlike).point))
        self.assertEqual(len(list(points_of(((0, 1),)))), 2)


if __name__ == "__main__":
    unittest.main()
