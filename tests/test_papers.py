"""Points 27 and 30: cuts, papers and trees."""

import math
import unittest

from paperbest.errors import InvalidPaper
from paperbest.papers import Best, Nothing, Paper, cut_row, cut_rows, leaves_of, split_box
from paperbest.tasks import Task, box_of
from tests.tools import (
    Hostile, changed, generator, given, holds_all, made_wish, odd_values, pair, points_of, some_names, total)

BIG = 10 ** 6
TASK = Task((("x", 0, 9), ("y", 0, 9)), (("sum", (2, 2), False, 5), ("unlike", (0, 1)), ("sum", (1, -3), True, 1)), (3, 2))
HALF = ((("row", 0), (1, 2)),)


def some_multipliers(rng, task, cuts):
    """Multipliers over sums, cuts and ends of a task, of which many give integers."""
    keys = [("row", k) for k, wish in enumerate(task.wishes) if wish[0] == "sum"]
    keys += [("cut", k) for k in range(len(cuts))]
    ends = [(word, at) for at in range(len(task.unknowns)) for word in ("low", "high")]
    table = {}
    for key in rng.sample(keys, min(len(keys), rng.randint(0, 2))) + rng.sample(ends, rng.randint(0, 2)):
        times = (rng.choice((1, 1, 1, 2, 3)), rng.choice((1, 2, 2)))
        if key[0] == "row" and task.wishes[key[1]][2] and rng.random() < 0.5:
            times = (-times[0], times[1])
        table[key] = pair(times[0]) if times[1] == 1 or times[0] % 2 == 0 else times
    return tuple(sorted(table.items()))


class CutsTest(unittest.TestCase):
    def test_example(self):
        self.assertEqual(cut_row(task=TASK, cuts=(), multipliers=HALF), ((1, 1), False, 3))
        self.assertIsNone(cut_row(TASK, (), ((("row", 0), (1, 3)),)))

    def test_edges(self):
        for multipliers, row in (
                ((), None), (((("low", 0), (1, 2)),), None), (((("low", 0), (1, 1)),), ((1, 0), False, 0)),
                (((("high", 0), (1, 2)), (("low", 0), (1, 2))), None), (((("high", 1), (2, 1)),), ((0, -2), False, -18)),
                (((("high", 0), (1, 2)), (("row", 0), (1, 4))), ((0, 0), False, 0)),
                (((("high", 1), (1, 2)), (("row", 0), (1, 4))), None),
                (((("row", 2), (-1, 1)),), ((-1, 3), False, -1)), (((("row", 0), (3, 2)),), ((3, 3), False, 8)),
                (((("low", 0), (1, 2)), (("row", 2), (1, 2))), None),
                (((("low", 0), (1, 2)), (("low", 1), (1, 2)), (("row", 2), (1, 2))), ((1, -1), False, 1)),
                (((("row", 0), (1, 2)), (("row", 2), (-1, 1))), ((0, 4), False, 2)),
                (((("cut", 0), (1, 3)),), ((1, 2), False, -1))):
            wanted = None if row is not None and not any(row[0]) else row
            self.assertEqual(cut_row(TASK, (((3, 6), False, -4),), multipliers), wanted, multipliers)

    def test_against_sums(self):
        rng = generator(270)
        made = 0
        for _ in range(1500):
            many = rng.randint(1, 3)
            unknowns = tuple((name, low, low + rng.randint(0, 3)) for name, low in zip(
                some_names(many), [rng.randint(-2, 2) for _ in range(3)]))
            task = Task(unknowns, tuple(made_wish(rng, many, "sum") for _ in range(2)), (0,) * many)
            kept = [point for point in points_of(box_of(task)) if holds_all(task, point)]
            cuts, papers = (), ()
            for _ in range(3):
                multipliers = some_multipliers(rng, task, cuts)
                form, bound = given(task, cuts, box_of(task), multipliers)
                row = cut_row(task, cuts, multipliers)
                if all(value.denominator == 1 for value in form) and any(form):
                    self.assertEqual(row, (tuple(form), False, math.ceil(bound)))
                    self.assertTrue(all(isinstance(item, int) for item in row[0] + row[2:]))
                    cuts, papers = cuts + (row,), papers + (multipliers,)
                    self.assertEqual(cut_rows(task, papers), cuts)
                    # Each point that keeps the task keeps all its cuts.
                    self.assertTrue(all(total(row[0], point) >= row[2] for point in kept))
                    made += 1
                else:
                    self.assertIsNone(row)
                    with self.assertRaises(InvalidPaper) as caught:
                        cut_rows(task, papers + (multipliers,) + papers)
                    self.assertEqual(caught.exception.at, len(papers))
        self.assertGreater(made, 500)

    def test_rows_of_cuts(self):
        self.assertEqual(cut_rows(task=TASK, value=()), ())
        self.assertEqual(cut_rows(TASK, (HALF, HALF)), (((1, 1), False, 3),) * 2)
        more = ((("cut", 0), (1, 1)), (("row", 2), (1, 1)))
        self.assertEqual(cut_rows(TASK, (HALF, more)), (((1, 1), False, 3), ((2, -2), False, 4)))
        self.assertEqual(cut_rows(TASK, (HALF, more, ((("cut", 1), (1, 2)),))), (
            ((1, 1), False, 3), ((2, -2), False, 4), ((1, -1), False, 2)))

    def refused(self, value, at):
        with self.assertRaises(InvalidPaper) as caught:
            cut_rows(TASK, value)
        self.assertEqual(caught.exception.at, at, value)

    def test_refusals(self):
        for value in odd_values():
            if not isinstance(value, tuple):
                self.refused(value, -1)
            self.refused((HALF, value), 1)
            self.refused((value, HALF), 0)
        self.refused([HALF], -1)
        for at, item in enumerate((
                ((("cut", 0), (1, 1)),), ((("cut", 1), (1, 1)),), ((("row", 1), (1, 2)),), ((("row", 0), (-1, 2)),),
                ((("row", 0), (2, 4)),), [(("row", 0), (1, 2))], HALF + HALF, HALF[::-1] + ((("high", 0), (2, 1)),),
                ((("row", 0), (1, 3)),), ((("low", 2), (1, 1)),), ((("row", 0), Hostile()),), (Hostile(),), ())):
            # A cut may use those before it, not itself or one behind it.
            self.refused((HALF,) * at + (item,) if at > 1 else (item,), at if at > 1 else 0)
        self.refused((HALF, ((("cut", 1), (1, 1)),), HALF), 1)

    def test_limits(self):
        many = 40
        task = Task(tuple((name, -BIG, BIG) for name in some_names(many)), (("sum", (BIG,) * many, False, 1),) * 60, (0,) * many)
        times = tuple((("row", k), (1, 6 * 10 ** 5)) for k in range(60))
        self.assertIsNone(cut_row(task, (), times[:59]))
        self.assertEqual(cut_rows(task, (times[:6],) * 30), (((10,) * many, False, 1),) * 30)


class TreesTest(unittest.TestCase):
    def test_objects(self):
        for value in odd_values():
            for made, names in ((Paper(value, 1), ("cuts", "tree")), (Best(value, 1, 2), ("point", "worth", "paper")),
                                (Nothing(value), ("paper",))):
                self.assertIs(getattr(made, names[0]), value)
                self.assertEqual([getattr(made, name) for name in names[1:]], [1, 2][:len(names) - 1])
        best = Best(paper=3, worth=2, point=1)
        self.assertEqual((best.point, best.worth, best.paper), (1, 2, 3))
        paper = Paper(tree=2, cuts=1)
        self.assertEqual((paper.cuts, paper.tree, Nothing(paper=paper).paper), (1, 2, paper))

    def test_split_box(self):
        self.assertEqual(split_box(box=((0, 9), (-3, 3)), at=1, k=-1), (((0, 9), (-3, -1)), ((0, 9), (0, 3))))
        self.assertEqual(split_box(((0, 1),), 0, 0), (((0, 0),), ((1, 1),)))

    def test_leaves(self):
        self.assertEqual(leaves_of(task=TASK, tree=("out", 3)), ((((0, 9), (0, 9)), ("out", 3)),))
        tree = ("split", 0, 3, ("split", 1, 8, ("none", ()), ("out", 1)), ("split", 0, 4, ("shut", 2), ("broken", 3)))
        self.assertEqual(leaves_of(TASK, tree), (
            (((0, 3), (0, 8)), ("none", ())), (((0, 3), (9, 9)), ("out", 1)), (((4, 4), (0, 9)), ("shut", 2)),
            (((5, 9), (0, 9)), ("broken", 3))))

    def test_some_trees(self):
        rng = generator(300)
        for _ in range(200):
            task = Task(tuple((name, -2, rng.randint(-2, 5)) for name in some_names(3)), (), (0, 0, 0))
            number = [0]
            leaves = []

            def made(box, depth):
                wide = [at for at, (low, high) in enumerate(box) if low < high]
                if depth == 0 or not wide or rng.random() < 0.2:
                    number[0] += 1
                    leaves.append((box, ("leaf", number[0])))
                    return leaves[-1][1]
                at = rng.choice(wide)
                low, high = box[at]
                k = rng.randint(low, high - 1)
                return ("split", at, k, made(changed(box, at, (low, k)), depth - 1),
                        made(changed(box, at, (k + 1, high)), depth - 1))

            tree = made(box_of(task), 6)
            self.assertEqual(leaves_of(task, tree), tuple(leaves))

    def test_deep_trees(self):
        task = Task((("x", 0, BIG),), (), (0,))
        for deep in (200, 5000):
            tree = ("broken", 0)
            for k in range(deep - 1, -1, -1):
                tree = ("split", 0, k, ("out", k), tree)
            told = leaves_of(task, tree)
            self.assertEqual(len(told), deep + 1)
            self.assertEqual((told[0], told[-1]), ((((0, 0),), ("out", 0)), (((deep, BIG),), ("broken", 0))))
            tree = ("broken", 0)
            for k in range(deep):
                tree = ("split", 0, k, tree, ("out", k))
            self.assertEqual(leaves_of(task, tree)[-1], (((deep, BIG),), ("out", deep - 1)))


if __name__ == "__main__":
    unittest.main()
