"""Point 44: draws that best points of sums tell."""

import math
import unittest

from paperbest.duals import relaxed
from paperbest.prices import exact_draws, priced_draws
from paperbest.tasks import Task, box_of
from tests.test_duals import corners_of, made_case
from tests.tools import (
    after_draws, fraction, generator, holds_all, leaf_is_right, left_out, points_of, some_names, total)

BIG = 10 ** 6


def suiting(task, cuts, box):
    """The points of a box that keep a task and its cuts."""
    return [point for point in points_of(box)
            if holds_all(task, point) and all(total(row, point) >= bound for row, _, bound in cuts)]


class PricedTest(unittest.TestCase):
    def test_example(self):
        task = Task((("x", 0, 9), ("y", 0, 9)), (("sum", (2, 2), False, 5),), (3, 2))
        box = ((0, 9), (0, 9))
        leaf = ("worth", ((("low", 0), (1, 1)), (("row", 0), (1, 1))))
        self.assertEqual(priced_draws(task=task, cuts=(), box=box, worth=7), (((0, 1, 1, leaf),), None))
        # The worth is 5: it is reached from 5 on, not from 6 on.
        self.assertEqual(priced_draws(task, (), box, 5), ((), leaf))
        self.assertEqual(priced_draws(task, (), box, -9), ((), leaf))
        self.assertEqual(priced_draws(task, (), box, 6), (((0, 1, 0, leaf),), None))
        self.assertEqual(priced_draws(task, (), box, 14), (((0, 1, 8, leaf),), None))
        # The box is not wider than what is left to spend.
        self.assertEqual(priced_draws(task, (), box, 15), ((), None))
        none = Task(task.unknowns, (("sum", (1, 1), False, 19),), (3, 2))
        draws, leaf = priced_draws(none, (), box, 7)
        self.assertEqual(draws, ())
        self.assertEqual(leaf[0], "none")
        self.assertTrue(leaf_is_right(none, (), box, leaf))

    def test_high_ends_and_fractions(self):
        task = Task((("x", -9, 9), ("y", -9, 9)), (("sum", (-2, -3), False, -10),), (-3, -1))
        box = box_of(task)
        draws, leaf = priced_draws(task, (), box, -20)
        self.assertIsNone(leaf)
        _, point, worth, multipliers = relaxed(task, (), box)
        self.assertEqual((worth, dict(multipliers)[("high", 0)]), ((-73, 3), (7, 3)))
        # From -73/3 to -21 there are 10/3, and 10/7, rounded down, is 1.
        self.assertEqual([draw[:3] for draw in draws], [(0, 0, 8)])

    def test_against_the_multipliers(self):
        rng = generator(440)
        words, seen = [], 0
        for _ in range(700):
            task, cuts, box = made_case(rng)
            answer = relaxed(task, cuts, box)
            worth = rng.randint(-12, 20)
            draws, leaf = priced_draws(task, cuts, box, worth)
            if answer[0] == "none":
                self.assertEqual((draws, leaf), ((), answer))
                words.append("none")
                continue
            least = fraction(answer[2])
            if math.ceil(least) >= worth:
                self.assertEqual((draws, leaf), ((), ("worth", answer[3])))
                words.append("worth")
                continue
            words.append("draws")
            self.assertIsNone(leaf)
            wanted = []
            for (word, at), times in answer[3]:
                if word in ("low", "high"):
                    far = math.floor((worth - 1 - least) / fraction(times))
                    low, high = box[at]
                    if high - low > far:
                        end = (at, 1, low + far) if word == "low" else (at, 0, high - far)
                        wanted.append(end + (("worth", answer[3]),))
            self.assertEqual(draws, tuple(wanted))
            left = after_draws(task, cuts, box, draws, worth)
            seen += len(draws)
            for point in suiting(task, cuts, box):
                if total(task.goal, point) < worth:
                    self.assertTrue(all(low <= value <= high for value, (low, high) in zip(point, left)))
        self.assertGreater(min([words.count(word) for word in ("none", "worth", "draws")] + [seen]), 20)


class ExactTest(unittest.TestCase):
    def check(self, task, cuts, box):
        """Compare draws with those that the corners of what suits tell."""
        draws, leaf = exact_draws(task=task, cuts=cuts, box=box)
        left, found = box, list(draws)
        for at in range(len(box)):
            for side in (0, 1):
                corners = corners_of(task, cuts, left)
                if not corners:
                    self.assertEqual(found, [])
                    self.assertEqual(leaf[0], "none")
                    self.assertTrue(leaf_is_right(task, cuts, left, leaf), (task.wishes, left, leaf))
                    return draws, leaf
                values = [corner[at] for corner in corners]
                end = math.ceil(min(values)) if side == 0 else math.floor(max(values))
                if end != left[at][side]:
                    self.assertEqual(found[0][:3], (at, side, end))
                    self.assertEqual(found[0][3][0], "none")
                    out, other = left_out(left, found[0])
                    self.assertTrue(leaf_is_right(task, cuts, out, found[0][3]), (task.wishes, out, found[0]))
                    found, left = found[1:], other
        self.assertEqual((found, leaf), ([], None))
        return draws, leaf

    def test_edges(self):
        unknowns = (("x", 0, 9), ("y", 0, 9))
        box = ((0, 9), (0, 9))
        task = Task(unknowns, (("sum", (2, 2), False, 5), ("unlike", (0, 1))), (3, 2))
        self.assertEqual(exact_draws(task, (), box), ((), None))
        self.assertEqual([draw[:3] for draw in self.check(task, (), ((0, 1), (0, 9)))[0]], [(1, 0, 2)])
        # Just an integer, and just beyond it.
        for bound, end in ((8, 4), (9, 5), (10, 5), (18, 9)):
            task = Task(unknowns, (("sum", (2, 0), False, bound),), (0, 0))
            self.assertEqual([draw[:3] for draw in self.check(task, (), box)[0]], [(0, 0, end)])
        task = Task(unknowns, (("sum", (-2, 0), False, -9),), (0, 0))
        self.assertEqual([draw[:3] for draw in self.check(task, (), box)[0]], [(0, 1, 4)])
        # Fractions suit, but none in the box that the first draw leaves.
        task = Task(unknowns, (("sum", (2, 0), True, 9),), (0, 0))
        draws, leaf = self.check(task, (), box)
        self.assertEqual(([draw[:3] for draw in draws], leaf[0]), ([(0, 0, 5)], "none"))
        task = Task(unknowns, (("sum", (1, 1), False, 19),), (0, 0))
        self.assertEqual(self.check(task, (), box)[0], ())
        cuts = (((1, 1), False, 18),)
        task = Task(unknowns, (), (5, 5))
        self.assertEqual([draw[:3] for draw in self.check(task, cuts, box)[0]], [(0, 0, 9), (1, 0, 9)])

    def test_against_corners(self):
        rng = generator(441)
        drawn = none = late = 0
        for _ in range(500):
            task, cuts, box = made_case(rng)
            draws, leaf = self.check(task, cuts, box)
            drawn += len(draws)
            none += leaf is not None
            late += leaf is not None and len(draws) > 0
            left = after_draws(task, cuts, box, draws)
            kept = suiting(task, cuts, box)
            if leaf is None:
                self.assertTrue(all(low <= value <= high for point in kept
                                    for value, (low, high) in zip(point, left)))
            else:
                self.assertEqual(kept, [])
        self.assertGreater(min(drawn, none), 50)
        self.assertGreater(late, 0)

    def test_limits(self):
        rng = generator(442)
        point = [rng.randint(0, BIG // 40) for _ in range(40)]
        wishes = []
        for _ in range(20):
            row = tuple(rng.choice((0, 0, 0, rng.randint(-BIG, BIG))) for _ in range(40))
            if any(row):
                wishes.append(("sum", row, False, max(-BIG, min(BIG, total(row, point) - 7))))
        wishes.append(("sum", (1,) * 40, True, sum(point)))
        task = Task(tuple((name, 0, BIG) for name in some_names(40)), tuple(wishes), (BIG,) * 40)
        draws, leaf = exact_draws(task, (), box_of(task))
        self.assertTrue(leaf is None or leaf[0] == "none")
        after_draws(task, (), box_of(task), draws)
        least = relaxed(task, (), box_of(task))[2]
        draws, leaf = priced_draws(task, (), box_of(task), math.ceil(fraction(least)) + BIG)
        after_draws(task, (), box_of(task), draws, math.ceil(fraction(least)) + BIG)


if __name__ == "__main__":
    unittest.main()
