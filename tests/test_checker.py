"""Point 30: which trees and answers are right, and what is wrong first."""

import unittest

from paperbest.checker import first_fault, is_answer, tree_fault
from paperbest.papers import Best, Nothing, Paper
from paperbest.tasks import Task, box_of
from tests.tools import (
    Hostile, changed, generator, holds_all, kept_points_of, nodes_of, odd_values, points_of, right_tree, some_task,
    total, tree_is_right)

BIG = 10 ** 6
TASK = Task((("x", 0, 9), ("y", 0, 9)), (("sum", (2, 2), False, 5), ("unlike", (0, 1))), (3, 2))
HALF = ((("row", 0), (1, 2)),)
LEAF = ("worth", ((("cut", 0), (2, 1)), (("low", 0), (1, 1))))
NONE = ("none", ((("high", 0), (1, 1)), (("low", 0), (1, 1)), (("row", 0), (1, 1))))


def put_at(tree, number, node):
    """The tree in which the node with a number is another one, which has no more and no fewer nodes below."""
    done = []

    def walk(inner):
        done.append(inner)
        if len(done) - 1 == number:
            return node(inner)
        if not isinstance(inner, tuple) or len(inner) != 5 or inner[0] != "split":
            return inner
        lower = walk(inner[3])
        return inner[:3] + (lower, walk(inner[4]))

    return walk(tree)


def many_of(tree):
    return 1 + many_of(tree[3]) + many_of(tree[4]) if tree[0] == "split" else 1


class TreesTest(unittest.TestCase):
    def made(self, rng):
        """A task, a box, a right tree for it and its worth."""
        while True:
            task = some_task(rng, most=4)
            box = box_of(task)
            kept = kept_points_of(task)
            least = min((total(task.goal, point) for point in kept), default=rng.choice((None, 3)))
            return task, box, right_tree(rng, task, box, least), least

    def test_right_trees(self):
        rng = generator(300)
        kinds, deep = {}, 0
        for _ in range(400):
            task, box, tree, least = self.made(rng)
            self.assertIsNone(tree_fault(task, (), box, tree, least), (task.wishes, tree))
            for _, node in nodes_of(box, tree):
                kinds[node[0]] = kinds.get(node[0], 0) + 1
            if least is not None:
                self.assertIsNone(tree_fault(task=task, cuts=(), box=box, tree=tree, least=least - 1))
                # A tree for a worth is none for a greater one, unless it needs no worth at all.
                above = min((total(task.goal, point) for point in kept_points_of(task)), default=None)
                if above is not None:
                    self.assertIsNotNone(tree_fault(task, (), box, tree, above + 1))
            deep += many_of(tree) > 9
        self.assertGreater(deep, 50)
        self.assertLessEqual({"split", "worth", "none", "crowd", "out", "shut", "late", "broken"}, set(kinds))

    def test_spoilt_nodes(self):
        rng = generator(301)
        wrong = [value for value in odd_values() + [("split",), ("split", 0, 0, LEAF), ("here",), ["none", ()]]]
        for _ in range(300):
            task, box, tree, least = self.made(rng)
            number = rng.randrange(many_of(tree))
            value = rng.choice(wrong)
            spoilt = put_at(tree, number, lambda node: value)
            self.assertEqual(tree_fault(task, (), box, spoilt, least), number, (tree, number))
            # Of two wrong nodes the first one is named.
            later = rng.randrange(many_of(tree))
            if later > number and nodes_of(box, tree)[number][1][0] != "split":
                both = put_at(put_at(tree, later, lambda node: value), number, lambda node: value)
                self.assertEqual(tree_fault(task, (), box, both, least), number)

    def test_splits(self):
        box = ((0, 9), (-3, 4))
        task = Task((("x", 0, 9), ("y", -3, 4)), (("sum", (1, 1), False, 99),), (0, 0))
        leaf = ("none", ((("high", 0), (1, 1)), (("high", 1), (1, 1)), (("row", 0), (1, 1))))
        for at, k, right in (
                (0, 0, True), (0, 8, True), (0, -1, False), (0, 9, False), (1, -3, True), (1, 3, True), (1, 4, False),
                (1, -4, False), (2, 0, False), (-1, 0, False), (True, 0, False), (0, True, False), (0, 1.0, False),
                (0.0, 1, False), (None, 1, False), (0, None, False), (0, (1,), False), (Hostile(), 1, False),
                (0, Hostile(), False), ("x", 1, False), (10 ** 30, 0, False), (0, 10 ** 30, False)):
            self.assertEqual(tree_fault(task, (), box, ("split", at, k, leaf, leaf), None), None if right else 0)
        inner = ("split", 0, 3, leaf, leaf)
        for k, lower, upper, number in (
                (3, leaf, inner, 2), (3, inner, leaf, 1), (4, inner, leaf, None), (2, leaf, inner, None),
                (4, leaf, inner, 2), (2, inner, leaf, 1), (2, inner, 7, 1), (4, inner, 7, 4), (4, ("split", 0, 3, leaf, 7), 8, 3)):
            self.assertEqual(tree_fault(task, (), box, ("split", 0, k, lower, upper), None), number)
        for tree in (("split", 0, 3, leaf), ("split", 0, 3, leaf, leaf, leaf), ["split", 0, 3, leaf, leaf],
                     ("Split", 0, 3, leaf, leaf), (b"split", 0, 3, leaf, leaf), (Hostile(), 0, 3, leaf, leaf), ()):
            self.assertEqual(tree_fault(task, (), box, tree, None), 0)

    def test_deep_trees(self):
        for many, width in ((200, 300), (3000, 4000)):
            task = Task((("x", 0, width), ("y", 0, 1)), (("sum", (1, 0), False, width + 1),), (1, 0))
            leaf = ("none", ((("high", 0), (1, 1)), (("row", 0), (1, 1))))
            upward, downward = leaf, leaf
            for step in range(many):
                upward = ("split", 0, many - step - 1, leaf, upward)
                downward = ("split", 0, width - many + step, downward, leaf)
            for tree in (upward, downward):
                self.assertIsNone(tree_fault(task, (), box_of(task), tree, None))
            wrong = ("split", 1, 0, leaf, ("none", ()))
            upward, downward = wrong, wrong
            for step in range(many):
                upward = ("split", 0, many - step - 1, leaf, upward)
                downward = ("split", 0, width - many + step, downward, leaf)
            self.assertEqual(tree_fault(task, (), box_of(task), upward, None), 2 * many + 2)
            self.assertEqual(tree_fault(task, (), box_of(task), downward, None), many + 2)

    def test_all_words(self):
        wishes = (("sum", (1, 1, 1), False, 9), ("unlike", (0, 1, 2)), ("table", (1,), ((7,), (8,))), ("either", (
            ("sum", (1, 0, 0), False, 9), ("sum", (0, 1, 0), False, 9))), ("bench", ((0, 5), (1, 5), (2, 5))), ("room", (
                (0, 5, 2), (1, 5, 2), (2, 5, 2)), 3), ("round", (0, 1, 2)))
        task = Task((("x", -9, 9), ("y", -9, 9), ("z", -9, 9)), wishes, (1, 1, 1))
        narrow, one = ((1, 2), (1, 2), (1, 2)), ((1, 1), (1, 1), (2, 2))
        ends = tuple((("high", at), (1, 1)) for at in range(3))
        for leaf, box in (
                (("worth", tuple((("low", at), (1, 1)) for at in range(3))), narrow), (("none", ends + ((("row", 0), (1, 1)),)), narrow),
                (("crowd", 1, (0, 1, 2), 1, 2), narrow), (("out", 2), narrow), (("shut", 3), narrow), (("late", 4, 0, 1), narrow),
                (("load", 4, (0, 1, 2), 1, 7), narrow), (("full", 5, (0, 1), 2), narrow), (("ring", 6, (1, 2)), narrow),
                (("broken", 1), one), (("broken", 6), one)):
            wide = ((-9, 9),) * 3
            self.assertIsNone(tree_fault(task, (), box, leaf, 3), leaf)
            self.assertEqual(tree_fault(task, (), wide, leaf, 3), 0)
            at, (low, high) = 2, box[2]
            tree = ("split", at, high, ("split", 0, 2, leaf, 7), leaf)
            self.assertEqual(tree_fault(task, (), changed(box, 2, (low, high + 5)), tree, 3), 1)
            self.assertEqual(tree_fault(task, (), box, leaf[:1] + (99,) + leaf[2:], 3), 0)

    def test_worths_and_cuts(self):
        box = box_of(TASK)
        cuts = (((1, 1), False, 3),)
        for worth, fault in ((6, None), (7, 0), (5, None), (-BIG, None), (None, 0)):
            self.assertEqual(tree_fault(TASK, cuts, box, LEAF, worth), fault)
        self.assertEqual(tree_fault(TASK, (), box, LEAF, 6), 0)


class AnswersTest(unittest.TestCase):
    def test_example(self):
        self.assertTrue(is_answer(TASK, Best((0, 3), 6, Paper((HALF,), LEAF))))
        self.assertEqual(first_fault(task=TASK, value=Best((1, 2), 7, Paper((HALF,), LEAF))), ("node", 0))

    def check(self, value, fault, task=TASK):
        self.assertEqual(first_fault(task, value), fault)
        self.assertIs(is_answer(task=task, value=value), fault is None)

    def test_faults_in_their_sequence(self):
        points = [((0, 3), True), ((0, 4), True), ((3, 3), False), ((0, 2), False), ((0, 10), False), ((0, True), False),
                  ((0,), False), ((0, 3, 0), False), ([0, 3], False), (None, False), (Hostile(), False),
                  ((0, Hostile()), False), ((0, 3.0), False)]
        worths = [(6, True), (8, True), (7, False), (6.0, False), (None, False), (True, False), (Hostile(), False)]
        papers = [(Paper((HALF,), LEAF), None), (None, ("paper", 0)), (((HALF,), LEAF), ("paper", 0)),
                  (Paper([HALF], LEAF), ("paper", 0)), (Paper(None, LEAF), ("paper", 0)), (Hostile(), ("paper", 0)),
                  (Paper(Hostile(), LEAF), ("paper", 0)), (Paper((), LEAF), ("node", 0)),
                  (Paper((HALF, HALF), LEAF), None), (Paper((HALF, ()), LEAF), ("cut", 1)),
                  (Paper((Hostile(),), LEAF), ("cut", 0)), (Paper((HALF,), Hostile()), ("node", 0)),
                  (Paper((HALF,), ("split", 0, 3, LEAF, LEAF)), None),
                  (Paper((HALF,), ("split", 0, 9, LEAF, LEAF)), ("node", 0)),
                  (Paper((HALF,), ("split", 0, 3, LEAF, NONE)), ("node", 2)),
                  (Paper((HALF, ((("cut", 1), (1, 1)),)), LEAF), ("cut", 1)),
                  (Paper((HALF, ((("cut", 0), (1, 1)),)), LEAF), None)]
        for point, kept in points:
            for worth, known in worths:
                for paper, fault in papers:
                    if not kept:
                        wanted = ("point", 0)
                    elif not known or worth != total((3, 2), point):
                        wanted = ("worth", 0)
                    elif point == (0, 4) and fault is None:
                        # This point is worth 8, and no paper of these shows so much.
                        wanted = ("node", 1 if isinstance(paper.tree, tuple) and paper.tree[0] == "split" else 0)
                    elif point == (0, 4) and fault == ("node", 2):
                        wanted = ("node", 1)
                    else:
                        wanted = fault
                    self.check(Best(point, worth, paper), wanted)

    def test_any_values(self):
        for value in odd_values() + [Best, Nothing, Paper((HALF,), LEAF), (Best((0, 3), 6, Paper((HALF,), LEAF)),)]:
            self.check(value, ("kind", 0))
            self.check(Nothing(value), ("paper", 0) if not isinstance(value, Paper) else ("node", 0))
            self.check(Nothing(Paper((), value)), ("node", 0))
            self.check(Best((0, 3), 6, Paper((value,), LEAF)), ("cut", 0))
            self.check(Best((0, 3), 6, Paper((HALF,), value)), ("node", 0))
            self.check(Best((0, 3), 6, Paper((HALF,), ("split", 0, 0, LEAF, value))), ("node", 2))

    def test_nothing(self):
        task = Task((("x", 0, 3), ("y", 0, 3)), (("sum", (2, 2), True, 5),), (1, 1))
        cut, other = ((("row", 0), (1, 2)),), ((("row", 0), (-1, 2)),)
        leaf = ("none", ((("cut", 0), (1, 1)), (("cut", 1), (1, 1))))
        self.check(Nothing(Paper((cut, other), leaf)), None, task)
        self.check(Nothing(Paper((other, cut), leaf)), None, task)
        self.check(Nothing(Paper((cut,), leaf)), ("node", 0), task)
        self.check(Nothing(Paper((cut, other), LEAF)), ("node", 0), task)
        self.check(Best((2, 1), 3, Paper((cut, other), leaf)), ("point", 0), task)

    def test_right_answers_are_best(self):
        rng = generator(302)
        found = 0
        for _ in range(300):
            task = some_task(rng, most=4)
            kept = kept_points_of(task)
            if not kept:
                tree = right_tree(rng, task, box_of(task))
                self.check(Nothing(Paper((), tree)), None, task)
                continue
            least = min(total(task.goal, point) for point in kept)
            tree = right_tree(rng, task, box_of(task), least)
            self.assertTrue(tree_is_right(task, (), box_of(task), tree, least))
            self.assertNotEqual(first_fault(task, Nothing(Paper((), tree))), None)
            for point in points_of(box_of(task)):
                value = total(task.goal, point)
                fault = first_fault(task, Best(point, value, Paper((), tree)))
                if not holds_all(task, point):
                    self.assertEqual(fault, ("point", 0))
                elif value > least:
                    self.assertEqual(fault[0], "node")
                else:
                    found += 1
                    self.assertIsNone(fault)
                    self.assertEqual(first_fault(task, Best(point, value + 1, Paper((), tree))), ("worth", 0))
        self.assertGreater(found, 100)


if __name__ == "__main__":
    unittest.main()
