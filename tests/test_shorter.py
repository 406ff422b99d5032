"""Point 31: shorter papers."""

import unittest

from paperbest.checker import first_fault, is_answer, tree_fault
from paperbest.papers import Best, Nothing, Paper, cut_row, cut_rows
from paperbest.shorter import shorter_answer
from paperbest.tasks import Task, box_of
from tests.test_papers import some_multipliers
from tests.tools import answer_is_right, changed, generator, kept_points_of, right_tree, some_task, total

TASK = Task((("x", 0, 9), ("y", 0, 9)), (("sum", (2, 2), False, 5), ("unlike", (0, 1))), (3, 2))
HALF = ((("row", 0), (1, 2)),)
LEAF = ("worth", ((("cut", 0), (2, 1)), (("low", 0), (1, 1))))


def plain_short(task, rows, box, tree, least):
    """The tree without splits that are not needed, as the document says it."""
    if tree[0] != "split":
        return tree
    _, at, k, lower, upper = tree
    lower = plain_short(task, rows, changed(box, at, (box[at][0], k)), lower, least)
    upper = plain_short(task, rows, changed(box, at, (k + 1, box[at][1])), upper, least)
    for side in (lower, upper):
        if tree_fault(task, rows, box, side, least) is None:
            return side
    return ("split", at, k, lower, upper)


def leaves_of(tree):
    return leaves_of(tree[3]) + leaves_of(tree[4]) if tree[0] == "split" else [tree]


def used_by(multipliers):
    return {at for (word, at), _ in multipliers if word == "cut"}


def with_numbers(tree, numbers):
    if tree[0] == "split":
        return tree[:3] + (with_numbers(tree[3], numbers), with_numbers(tree[4], numbers))
    return (tree[0], renamed(tree[1], numbers)) if tree[0] in ("none", "worth") else tree


def renamed(multipliers, numbers):
    return tuple(((word, numbers[at] if word == "cut" else at), times) for (word, at), times in multipliers)


def plain_shorter(task, answer):
    """The cuts and the tree that are wanted."""
    least = getattr(answer, "worth", None)
    tree = plain_short(task, cut_rows(task, answer.paper.cuts), box_of(task), answer.paper.tree, least)
    used = set().union(*[used_by(leaf[1]) for leaf in leaves_of(tree) if leaf[0] in ("none", "worth")])
    more = True
    while more:
        wider = used.union(*[used_by(answer.paper.cuts[at]) for at in used])
        more, used = wider != used, wider
    numbers = {old: new for new, old in enumerate(sorted(used))}
    return tuple(renamed(answer.paper.cuts[at], numbers) for at in sorted(used)), with_numbers(tree, numbers)


class ShorterTest(unittest.TestCase):
    def check(self, task, answer):
        self.assertIsNone(first_fault(task, answer))
        short = shorter_answer(task=task, answer=answer)
        self.assertTrue(is_answer(task, short))
        self.assertTrue(answer_is_right(task, short))
        self.assertEqual(isinstance(short, Best), isinstance(answer, Best))
        if isinstance(answer, Best):
            self.assertEqual((short.point, short.worth), (answer.point, answer.worth))
        self.assertEqual((short.paper.cuts, short.paper.tree), plain_shorter(task, answer))
        return short.paper

    def test_splits(self):
        split = ("split", 0, 3, LEAF, LEAF)
        for tree in (LEAF, split, ("split", 1, 4, split, split), ("split", 0, 8, split, LEAF), ("split", 0, 2, LEAF, split)):
            paper = self.check(TASK, Best((0, 3), 6, Paper((HALF,), tree)))
            self.assertEqual((paper.cuts, paper.tree), ((HALF,), LEAF))

    def test_sides(self):
        task = Task((("x", 0, 9), ("y", 0, 9)), (("sum", (-1, 0), False, -3), ("sum", (1, 0), False, 6), ("sum", (0, 1), False, 99)), (0, 0))
        low = ("none", ((("high", 0), (1, 1)), (("row", 1), (1, 1))))
        high = ("none", ((("low", 0), (1, 1)), (("row", 0), (1, 1))))
        both = ("none", ((("row", 0), (1, 1)), (("row", 1), (1, 1))))
        side = ("none", ((("high", 1), (1, 1)), (("row", 2), (1, 1))))
        for tree, wanted in (
                (("split", 0, 4, low, high), ("split", 0, 4, low, high)), (("split", 0, 4, both, high), both),
                (("split", 0, 4, low, both), both), (("split", 0, 4, side, both), side), (("split", 0, 4, both, side), both),
                # Splits further down go first, so that a side becomes right that was not.
                (("split", 0, 4, ("split", 1, 3, side, both), high), side),
                (("split", 1, 4, ("split", 0, 4, low, high), ("split", 0, 4, low, high)), ("split", 0, 4, low, high)),
                (("split", 0, 4, low, ("split", 0, 6, high, both)), ("split", 0, 4, low, high)),
                (("split", 0, 4, low, ("split", 0, 6, both, high)), both)):
            self.assertEqual(self.check(task, Nothing(Paper((), tree))).tree, wanted, tree)

    def test_cuts(self):
        cuts = (((("row", 0), (1, 1)),), HALF, ((("cut", 1), (1, 1)),), ((("cut", 2), (2, 1)),), ((("cut", 0), (1, 1)),))
        leaf = ("worth", ((("cut", 2), (2, 1)), (("low", 0), (1, 1))))
        paper = self.check(TASK, Best((0, 3), 6, Paper(cuts, leaf)))
        self.assertEqual(paper.cuts, (HALF, ((("cut", 0), (1, 1)),)))
        self.assertEqual(paper.tree, ("worth", ((("cut", 1), (2, 1)), (("low", 0), (1, 1)))))
        # The first cut is used by a cut that is left out only.
        paper = self.check(TASK, Best((0, 3), 6, Paper((HALF, HALF) + cuts, LEAF)))
        self.assertEqual((paper.cuts, paper.tree), ((HALF,), LEAF))
        plain = Task(TASK.unknowns, TASK.wishes, (0, 0))
        self.assertEqual(self.check(plain, Best((0, 3), 0, Paper(cuts, ("worth", ())))).cuts, ())

    def test_made_answers(self):
        rng = generator(310)
        shorter = fewer = 0
        for _ in range(500):
            task = some_task(rng, most=4)
            kept = kept_points_of(task)
            papers, rows = (), ()
            for _ in range(rng.randint(0, 4)):
                multipliers = some_multipliers(rng, task, rows)
                row = cut_row(task, rows, multipliers)
                if row is not None:
                    papers, rows = papers + (multipliers,), rows + (row,)
            best = min(kept, key=lambda point: total(task.goal, point)) if kept else None
            least = total(task.goal, best) if kept else None
            tree = right_tree(rng, task, box_of(task), least)
            tree = self.with_cuts(rng, task, rows, tree, least)
            answer = Best(best, least, Paper(papers, tree)) if kept else Nothing(Paper(papers, tree))
            paper = self.check(task, answer)
            shorter += len(leaves_of(paper.tree)) < len(leaves_of(tree))
            fewer += 0 < len(paper.cuts) < len(papers)
        self.assertGreater(shorter, 100)
        self.assertGreater(fewer, 3)

    def with_cuts(self, rng, task, rows, tree, least):
        """The tree with cuts, also some that do not matter, in its leaves of multipliers."""
        if tree[0] == "split":
            return tree[:3] + tuple(self.with_cuts(rng, task, rows, side, least) for side in tree[3:])
        if tree[0] not in ("none", "worth") or not rows or rng.random() < 0.3:
            return tree
        number = rng.randrange(len(rows))
        table = dict(tree[1])
        # A cut and the ends that undo it: what they give together is at most 0, and may be too little.
        table[("cut", number)] = (1, 1)
        for at, times in enumerate(rows[number][0]):
            if times:
                key = ("high" if times > 0 else "low", at)
                old = table.get(key, (0, 1))
                table[key] = (old[0] + abs(times) * old[1], old[1])
        changed_leaf = (tree[0], tuple(sorted(table.items())))
        return changed_leaf if tree_fault(task, rows, box_of(task), changed_leaf, least) is None else tree

    def test_deep_trees(self):
        for many in (200, 2000):
            task = Task((("x", 0, many), ("y", 0, 1)), (("sum", (1, 0), False, many + 1), ("unlike", (0, 1))), (1, 0))
            leaf = ("none", ((("high", 0), (1, 1)), (("row", 0), (1, 1))))
            upward, downward = leaf, leaf
            for step in range(many):
                upward = ("split", 0, many - step - 1, leaf, upward)
                downward = ("split", 0, step, downward, leaf)
            for tree in (upward, downward):
                short = shorter_answer(task, Nothing(Paper((), tree)))
                self.assertEqual(short.paper.tree, leaf)
            worth = Task(task.unknowns, (), (1, 1))
            for way in (0, 1):
                tree = ("worth", ((("low", 0), (1, 1)), (("low", 1), (1, 1))))
                for step in range(many):
                    sides = (("worth", ((("low", 0), (1, 1)), (("low", 1), (1, 1)))), tree)
                    tree = ("split", 0, many - step - 1 if way == 0 else step) + (sides if way == 0 else sides[::-1])
                short = shorter_answer(worth, Best((0, 0), 0, Paper((), tree)))
                self.assertEqual(short.paper.tree[0], "worth")


if __name__ == "__main__":
    unittest.main()
