"""Points 87 to 89: answers for all tasks, their sizes, and papers for worths."""

import time
import unittest

from paperbest.checker import is_answer
from paperbest.errors import InvalidNumber
from paperbest.papers import Best, Nothing, Paper
from paperbest.solver import answer_size, better_point, is_paper, most_leaves, solve
from paperbest.tasks import Task, box_of
from tests.tools import (
    KINDS, answer_is_right, generator, holds_all, kept_points_of, odd_values, plain_cut_rows, some_names, some_task,
    total, tree_is_right)

BIG = 10 ** 6
SUMS = (("sum", (2, 2), False, 5), ("unlike", (0, 1)))
TASK = Task((("x", 0, 3), ("y", 0, 3)), SUMS, (3, 2))
NUMBERS = ("passes", "cutting", "guessing", "halving")


def leaves_of(tree):
    return leaves_of(tree[3]) + leaves_of(tree[4]) if tree[0] == "split" else [tree]


class SolveTest(unittest.TestCase):
    def check(self, task, answer):
        kept = kept_points_of(task)
        self.assertTrue(answer_is_right(task, answer))
        self.assertTrue(is_answer(task, answer))
        self.assertEqual(isinstance(answer, Best), bool(kept))
        self.assertEqual(isinstance(answer, Nothing), not kept)
        if kept:
            self.assertIn(answer.point, kept)
            self.assertEqual(answer.worth, min(total(task.goal, point) for point in kept))
        leaves = leaves_of(answer.paper.tree)
        keys = sum(len(cut) for cut in answer.paper.cuts) + sum(len(leaf[1]) for leaf in leaves if leaf[0] in ("none", "worth"))
        self.assertEqual(answer_size(answer=answer), (len(answer.paper.cuts), len(leaves) - 1, len(leaves), keys))
        # The tree has no more leaves than there are points.
        self.assertLessEqual(len(leaves), most_leaves(task=task))
        return len(leaves)

    def test_all_kinds(self):
        rng = generator(870)
        seen = {}
        for _ in range(600):
            task = some_task(rng, rng.randint(1, 5), KINDS, 5, 4)
            many = self.check(task, solve(task))
            seen[many > 1, bool(kept_points_of(task))] = True
            some = {word: rng.choice((0, 0, 1, 2, 5, 50)) for word in NUMBERS}
            self.check(task, solve(task=task, **some))
        self.assertEqual(len(seen), 4)

    def test_single_kinds(self):
        rng = generator(871)
        for kind in KINDS:
            for _ in range(25):
                task = some_task(rng, 4, (kind,), 3, 4)
                self.check(task, solve(task))
                self.check(task, solve(task, passes=0, cutting=0, guessing=0, halving=0))

    def test_example(self):
        answer = solve(TASK)
        self.assertEqual((answer.point, answer.worth, solve(TASK, cutting=0, passes=0).worth), ((0, 3), 6, 6))

    def test_goals_of_nothing(self):
        rng = generator(872)
        for _ in range(150):
            task = some_task(rng, rng.randint(1, 4), KINDS, 5, 4, goal=0)
            self.check(task, solve(task))

    def test_great_numbers(self):
        huge = 10 ** 30
        for some in ({word: huge} for word in NUMBERS if word != "cutting"):
            self.assertEqual(solve(TASK, **some).worth, 6)
        self.assertEqual(solve(TASK, cutting=huge).worth, 6)
        self.assertEqual(solve(TASK, passes=huge, cutting=huge, guessing=huge, halving=huge).worth, 6)

    def test_errors(self):
        for at, word in enumerate(NUMBERS):
            for value in odd_values() + [-5]:
                if isinstance(value, int) and not isinstance(value, bool) and value >= 0:
                    continue
                for others in ({}, {other: "x" for other in NUMBERS[at + 1:]}, {other: 0 for other in NUMBERS[:at]}):
                    with self.assertRaises(InvalidNumber) as caught:
                        solve(TASK, **{word: value, **others})
                    self.assertEqual(caught.exception.word, word)

    def test_sizes(self):
        self.assertEqual(most_leaves(TASK), 16)
        self.assertEqual(most_leaves(Task((("x", -BIG, BIG), ("y", 5, 5)), (), (0, 0))), 2 * BIG + 1)
        multipliers = ((("low", 0), (1, 1)), (("row", 0), (1, 1)))
        tree = ("split", 0, 1, ("worth", multipliers), ("split", 0, 2, ("broken", 0), ("none", multipliers)))
        self.assertEqual(answer_size(Nothing(Paper((multipliers, multipliers[1:]), tree))), (2, 2, 3, 7))
        deep = ("out", 0)
        for k in range(3000):
            deep = ("split", 0, k, deep, ("worth", multipliers))
        self.assertEqual(answer_size(Best((), 0, Paper((), deep))), (0, 3000, 3001, 6000))

    def test_limits(self):
        start = time.time()
        names = some_names(40)
        unlike = Task(tuple((name, 0, 39) for name in names), (("unlike", tuple(range(40))),), (0,) * 40)
        answer = solve(unlike)
        self.assertTrue(is_answer(unlike, answer) and holds_all(unlike, answer.point))
        crowd = Task(tuple((name, 0, 38) for name in names), (("unlike", tuple(range(40))),), (1,) * 40)
        self.assertIsInstance(solve(crowd), Nothing)
        wide = Task(tuple((name, -BIG, BIG) for name in names), tuple(
            ("sum", tuple(BIG if place == at else 1 for place in range(40)), False, BIG - at) for at in range(40)), (BIG,) * 40)
        answer = solve(wide)
        self.assertTrue(is_answer(wide, answer))
        odd = Task((("x", -BIG, BIG), ("y", -BIG, BIG)), (("sum", (2, -2), True, 1),), (1, 1))
        self.assertIsInstance(solve(odd), Nothing)
        # A wish of each kind, sixty in all.
        chain = [("sum", tuple(-1 if place == at else 1 if place == at + 1 else 0 for place in range(40)), False, 2) for at in range(39)]
        others = [("unlike", tuple(range(40))), ("table", (0, 1), ((0, 3), (2, 5))), ("bench", tuple((at, 2) for at in range(40))),
                  ("room", tuple((at, 2, 1) for at in range(40)), 1), ("round", (0, 1)),
                  ("either", tuple(("sum", (1,) + (0,) * 39, False, bound) for bound in (1, 0)))]
        full = Task(tuple((name, 0, BIG) for name in names), tuple(chain + others[:4] + others[5:]), (0,) * 39 + (1,))
        answer = solve(full)
        self.assertTrue(is_answer(full, answer))
        self.assertEqual(answer.worth, 0 + 3 + 38 * 2)
        none = Task(full.unknowns, full.wishes + (others[4],), full.goal)
        self.assertIsInstance(solve(none), Nothing)
        self.assertLess(time.time() - start, 120)


class PapersTest(unittest.TestCase):
    def test_better_points(self):
        rng = generator(890)
        seen = {}
        for _ in range(400):
            task = some_task(rng, rng.randint(1, 4), KINDS, 4, 4)
            kept = kept_points_of(task)
            worths = [total(task.goal, point) for point in kept]
            for worth in {rng.randint(-20, 20), *([min(worths), min(worths) + 1, max(worths) + 9] if worths else [])}:
                told = better_point(task=task, worth=worth)
                better = [point for point in kept if total(task.goal, point) < worth]
                self.assertEqual(told[0], "point" if better else "paper")
                self.assertEqual(len(told), 2)
                seen[told[0], bool(kept)] = True
                if better:
                    self.assertIn(told[1], better)
                    continue
                paper = told[1]
                self.assertTrue(is_paper(task=task, value=paper, worth=worth))
                self.assertTrue(tree_is_right(task, plain_cut_rows(task, paper.cuts), box_of(task), paper.tree, worth))
                if kept:
                    self.assertFalse(is_paper(task, paper, min(worths) + 1))
                    self.assertFalse(is_paper(task, paper, None))
        self.assertEqual(len(seen), 3)

    def test_papers_of_answers(self):
        rng = generator(891)
        for _ in range(300):
            task = some_task(rng, rng.randint(1, 4), KINDS, 4, 3)
            answer = solve(task)
            if isinstance(answer, Nothing):
                for worth in (None, -BIG, 0, BIG):
                    self.assertTrue(is_paper(task, answer.paper, worth))
                continue
            for more in range(-3, 4):
                self.assertIs(is_paper(task, answer.paper, answer.worth + more), more <= 0)
            self.assertIs(is_paper(task, answer.paper, None), False)

    def test_example(self):
        answer = solve(TASK)
        self.assertEqual((better_point(TASK, 7)[0], better_point(TASK, 6)[0]), ("point", "paper"))
        self.assertEqual((is_paper(TASK, answer.paper, 6), is_paper(TASK, answer.paper, 7)), (True, False))

    def test_any_values(self):
        paper = solve(TASK).paper
        for value in odd_values():
            for worth in (None, 6, -BIG):
                self.assertIs(is_paper(TASK, value, worth), False)
                if not (isinstance(value, tuple) and len(value) == 0):
                    self.assertIs(is_paper(TASK, Paper(value, paper.tree), worth), False)
                self.assertIs(is_paper(TASK, Paper(paper.cuts, value), worth), False)
                self.assertIs(is_paper(TASK, Paper(paper.cuts, ("split", 0, 0, value, paper.tree)), worth), False)
                self.assertIs(is_paper(TASK, Paper((value,), paper.tree), worth), False)
            if not isinstance(value, int) or isinstance(value, bool):
                with self.assertRaises(InvalidNumber) as caught:
                    better_point(TASK, value)
                self.assertEqual(caught.exception.word, "worth")
        self.assertIs(is_paper(TASK, Best((0, 3), 6, paper), 6), False)


if __name__ == "__main__":
    unittest.main()
