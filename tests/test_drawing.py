"""Points 47, 48 and 50: drawers of all kinds, passes over them, and tries of single values."""

import math
import time
import unittest

from paperbest import benches, crowds, eithers, ends, rings, rooms, tables
from paperbest.drawing import drawn, rest_passes, rests, shaved, wish_draws
from paperbest.errors import InvalidNumber
from paperbest.reasons import is_draws
from paperbest.tasks import Task, box_of
from tests.test_ends import plain_telling
from tests.tools import (
    KINDS, after_draws, changed, generator, holds, holds_all, kept_points_of, leaf_is_right, made_box, made_wish,
    odd_values, points_of, some_names, some_task, total, tree_is_right)

BIG = 10 ** 6
DRAWERS = {"sum": ends.sum_draws, "unlike": crowds.crowd_draws, "table": tables.table_draws,
           "either": eithers.either_draws, "bench": benches.bench_draws, "room": rooms.room_draws, "round": rings.round_draws}
PAIR = Task((("x", 0, 9), ("y", 0, 3)), (("sum", (2, -3), False, 1), ("sum", (-1, 1), False, -2)), (1, 0))


def rests_at_rows(rows, box):
    """Whether no row tells a sharper end, or that there is none."""
    for row in rows:
        for at in range(len(box)):
            for side in (0, 1):
                end = plain_telling(row, box, at, side)
                if end is not None and (end > box[at][0] if side == 0 else end < box[at][1]):
                    return False
        coefficients, equal, bound = row
        for form, least in [(coefficients, bound)] + ([([-item for item in coefficients], -bound)] if equal else []):
            if sum(max(times * low, times * high) for times, (low, high) in zip(form, box)) < least:
                return False
    return True


def greatest_at_rest(rows, box):
    """The greatest box within a box at which rows rest, found by single ends in any order; None if there is none."""
    more = True
    while more:
        more = False
        for row in rows:
            for at in reversed(range(len(box))):
                for side in (1, 0):
                    end = plain_telling(row, box, at, side)
                    if end is None:
                        continue
                    low, high = box[at]
                    pair = (max(low, end), high) if side == 0 else (low, min(high, end))
                    if pair != (low, high):
                        more, box = True, changed(box, at, pair)
                    if pair[0] > pair[1]:
                        return None
    return box if rests_at_rows(rows, box) else None


def rows_of(task, cuts, worth):
    rows = [wish[1:] for wish in task.wishes] + list(cuts)
    return rows + ([(tuple(-times for times in task.goal), False, 1 - worth)] if worth is not None else [])


class DrawersTest(unittest.TestCase):
    def test_each_kind(self):
        rng = generator(470)
        seen = {}
        for _ in range(700):
            many = rng.randint(2, 4)
            kind = rng.choice(KINDS)
            wishes = tuple(made_wish(rng, many, rng.choice(KINDS)) for _ in range(rng.randint(0, 2))) + (made_wish(rng, many, kind),)
            task = Task(tuple((name, 0, 1) for name in some_names(many)), wishes, (0,) * many)
            k, box = len(wishes) - 1, made_box(rng, many, -1, 3, rng.choice((0, 1, 3)))
            told = wish_draws(task=task, k=k, box=box)
            self.assertEqual(told, DRAWERS[kind](task, k, box))
            kept = [point for point in points_of(box) if holds(wishes[k], point)]
            if told and told[0] == "leaf":
                self.assertFalse(kept)
                self.assertTrue(leaf_is_right(task, (), box, told[1]))
                seen[(kind, "leaf")] = True
                continue
            other = after_draws(task, (), box, told)
            self.assertTrue(all(low <= value <= high for point in kept for value, (low, high) in zip(point, other)))
            seen[(kind, bool(told))] = True
        self.assertEqual(len(seen), 21)


class PassesTest(unittest.TestCase):
    def plain_passes(self, task, box, passes, cuts, worth):
        """The box that passes leave, None if a drawer finds a leaf, and whether the last pass drew."""
        for _ in range(passes):
            before = box
            drawers = [lambda box, k=k: wish_draws(task, k, box) for k in range(len(task.wishes))]
            drawers += [lambda box, c=c: ends.row_draws(("cut", c), cuts[c], box) for c in range(len(cuts))]
            drawers += [lambda box: ends.goal_draws(task, worth, box)] if worth is not None else []
            for drawer in drawers:
                told = drawer(box)
                if told and told[0] == "leaf":
                    return None
                box = after_draws(task, cuts, box, told, worth)
            if box == before:
                break
        return box

    def check(self, task, box, passes, cuts, worth, kept):
        found = drawn(task=task, box=box, passes=passes, cuts=cuts, worth=worth)
        wanted = self.plain_passes(task, box, passes, cuts, worth)
        if wanted is None:
            self.assertEqual((found[0], len(found)), ("none", 2))
            self.assertTrue(tree_is_right(task, cuts, box, found[1], worth))
            self.assertFalse(kept)
            return None
        self.assertEqual(found[:2], ("box", wanted))
        self.assertEqual(after_draws(task, cuts, box, found[2], worth), wanted)
        self.assertTrue(is_draws(task, cuts, box, wanted, found[2], worth))
        self.assertTrue(all(low <= value <= high for point in kept for value, (low, high) in zip(point, wanted)))
        return wanted

    def test_example(self):
        self.assertEqual(drawn(PAIR, ((0, 9), (0, 3)), passes=9)[1], ((1, 5), (0, 3)))
        self.assertEqual(drawn(PAIR, ((0, 9), (0, 3)), passes=0), ("box", ((0, 9), (0, 3)), ()))
        self.assertEqual(rest_passes(((0, 9), (0, 3))), 13)
        self.assertEqual(rest_passes(box=((4, 4),)), 1)
        self.assertFalse(rests(PAIR, ((0, 9), (0, 3))))
        self.assertTrue(rests(PAIR, ((1, 5), (0, 3))))

    def test_all_kinds(self):
        rng = generator(480)
        seen = {}
        for _ in range(700):
            task = some_task(rng, rng.randint(2, 4), most=5)
            box = tuple((low, rng.randint(low, high)) for low, high in box_of(task))
            worth = rng.choice((None, None, rng.randint(-5, 5)))
            cuts = tuple(("sum",) + made_wish(rng, len(box), "sum")[1:] for _ in range(rng.randint(0, 1)))
            cuts = tuple((cut[1], False, rng.randint(-9, 1)) for cut in cuts)
            kept = [point for point in points_of(box) if holds_all(task, point) and all(
                total(cut[0], point) >= cut[2] for cut in cuts) and (worth is None or total(task.goal, point) < worth)]
            for passes in (0, 1, 2, rest_passes(box), rest_passes(box) + 7):
                wanted = self.check(task, box, passes, cuts, worth, kept)
                if passes == rest_passes(box):
                    seen[wanted is None, wanted == box] = True
                    if wanted is not None:
                        self.assertTrue(rests(task=task, box=wanted, cuts=cuts, worth=worth))
                        self.assertIs(rests(task, box, cuts=cuts, worth=worth), wanted == box)
                    else:
                        self.assertFalse(rests(task, box, cuts=cuts, worth=worth))
        self.assertEqual(len(seen), 3)

    def test_sums(self):
        rng = generator(481)
        none = 0
        for _ in range(500):
            task = some_task(rng, rng.randint(1, 4), ("sum",), 4, 6)
            box, worth = box_of(task), rng.choice((None, rng.randint(-5, 5)))
            cuts = tuple((made_wish(rng, len(box), "sum")[1], False, rng.randint(-9, 3)) for _ in range(rng.randint(0, 1)))
            rows = rows_of(task, cuts, worth)
            found = drawn(task, box, passes=rest_passes(box), cuts=cuts, worth=worth)
            wanted = greatest_at_rest(rows, box)
            none += wanted is None
            self.assertEqual(found[1] if found[0] == "box" else None, wanted)
            if wanted is None:
                self.assertTrue(tree_is_right(task, cuts, box, found[1], worth))
                if math.prod(high - low + 1 for low, high in box) < 60:
                    inner = [made for made in self.boxes_in(box) if rests_at_rows(rows, made)]
                    self.assertEqual(inner, [])
            # The order of the wishes does not matter.
            mixed = Task(task.unknowns, tuple(rng.sample(task.wishes, len(task.wishes))), task.goal)
            other = drawn(mixed, box, passes=rest_passes(box), cuts=cuts, worth=worth)
            self.assertEqual(other[1] if other[0] == "box" else None, wanted)
        self.assertGreater(none, 50)

    def boxes_in(self, box):
        if not box:
            return [()]
        low, high = box[0]
        pairs = [(one, other) for one in range(low, high + 1) for other in range(one, high + 1)]
        return [(pair,) + rest for pair in pairs for rest in self.boxes_in(box[1:])]

    def test_just_enough_passes(self):
        # Each pass draws each end by 1; after the last one nothing is left.
        task = Task((("x", 0, 5), ("y", 0, 5)), (("sum", (1, -1), False, 1), ("sum", (-1, 1), False, 0)), (0, 0))
        box = box_of(task)
        self.assertEqual(rest_passes(box), 11)
        boxes = [drawn(task, box, passes=passes) for passes in range(12)]
        first = [found[0] for found in boxes].index("none")
        self.assertTrue(all(found[0] == "none" for found in boxes[first:]))
        self.assertTrue(all(one[1] != other[1] for one, other in zip(boxes, boxes[1:first])))
        self.assertTrue(tree_is_right(task, (), box, boxes[11][1]))
        self.assertTrue(any(found[0] == "none" for found in boxes))

    def test_errors(self):
        box = box_of(PAIR)
        for value in odd_values():
            if isinstance(value, int) and not isinstance(value, bool) and value >= 0:
                continue
            for call in (drawn, shaved):
                for worth in (None, 3, "x"):
                    with self.assertRaises(InvalidNumber) as caught:
                        call(PAIR, box, passes=value, worth=worth)
                    self.assertEqual(caught.exception.word, "passes")
        for value in odd_values():
            if value is None or (isinstance(value, int) and not isinstance(value, bool)):
                continue
            for call in (lambda: drawn(PAIR, box, passes=1, worth=value), lambda: shaved(PAIR, box, passes=0, worth=value),
                         lambda: rests(PAIR, box, worth=value)):
                with self.assertRaises(InvalidNumber) as caught:
                    call()
                self.assertEqual(caught.exception.word, "worth")

    def test_limits(self):
        rng = generator(482)
        kinds = [kind for kind in KINDS if kind != "round"]
        names = some_names(40)
        wishes = []
        for at in range(60):
            wish = made_wish(rng, 40, kinds[at % len(kinds)], BIG)
            wishes.append(("sum", wish[1], False, -BIG) if wish[0] == "sum" else wish)
        task = Task(tuple((name, -BIG, BIG) for name in names), tuple(wishes), tuple(rng.randint(-BIG, BIG) for _ in names))
        start = time.time()
        found = drawn(task, box_of(task), passes=2, worth=0)
        if found[0] == "box":
            self.assertEqual(after_draws(task, (), box_of(task), found[2], 0), found[1])
        else:
            self.assertTrue(tree_is_right(task, (), box_of(task), found[1], 0))
        self.assertLess(time.time() - start, 60)
        deep = Task((("x", 0, 3000), ("y", 0, 3000)), (("sum", (1, -1), False, 1), ("sum", (-1, 1), False, 0)), (0, 0))
        found = drawn(deep, box_of(deep), passes=rest_passes(box_of(deep)))
        self.assertTrue(tree_is_right(deep, (), box_of(deep), found[1]))


class TriesTest(unittest.TestCase):
    def check(self, task, box, passes, cuts, worth):
        found = shaved(task=task, box=box, passes=passes, cuts=cuts, worth=worth)
        plain = drawn(task, box, passes=passes, cuts=cuts, worth=worth)
        kept = [point for point in points_of(box) if holds_all(task, point) and all(
            total(cut[0], point) >= cut[2] for cut in cuts) and (worth is None or total(task.goal, point) < worth)]
        if found[0] == "none":
            self.assertEqual(len(found), 2)
            self.assertTrue(tree_is_right(task, cuts, box, found[1], worth))
            self.assertFalse(kept)
            return None, plain
        other = found[1]
        self.assertTrue(is_draws(task, cuts, box, other, found[2], worth))
        self.assertTrue(all(low <= value <= high for point in kept for value, (low, high) in zip(point, other)))
        self.assertTrue(all(low <= one and two <= high for (low, high), (one, two) in zip(plain[1], other)))
        self.assertEqual(drawn(task, other, passes=passes, cuts=cuts, worth=worth)[1] if passes > 4 else other, other)
        for at, (low, high) in enumerate(other):
            for end in (low, high) if low < high else ():
                self.assertEqual(drawn(task, changed(other, at, (end, end)), passes=passes, cuts=cuts, worth=worth)[0], "box")
        return other, plain

    def test_all_kinds(self):
        rng = generator(500)
        seen = {}
        for _ in range(400):
            task = some_task(rng, rng.randint(2, 3), most=5)
            worth = rng.choice((None, None, rng.randint(-5, 5)))
            cuts = tuple((made_wish(rng, len(task.goal), "sum")[1], False, rng.randint(-9, 1)) for _ in range(rng.randint(0, 1)))
            other, plain = self.check(task, box_of(task), rng.choice((0, 1, 2, 50)), cuts, worth)
            seen[other is None, plain[0], other is not None and plain[1] == other] = True
        self.assertEqual(set(seen), {(True, "none", False), (True, "box", False), (False, "box", False), (False, "box", True)})

    def test_sums(self):
        rng = generator(501)
        shaves = 0
        for _ in range(900):
            task = some_task(rng, rng.randint(2, 3), ("sum",), 4, 6)
            box, worth = box_of(task), rng.choice((None, rng.randint(-5, 5)))
            rows = rows_of(task, (), worth)
            other, plain = self.check(task, box, rest_passes(box), (), worth)
            self.assertEqual(other, self.greatest(rows, box))
            shaves += plain[0] == "box" and plain[1] != other
        self.assertGreater(shaves, 15)

    def greatest(self, rows, box):
        """The greatest box that rests and no end of which can be drawn, found in another order."""
        box = greatest_at_rest(rows, box)
        while box is not None:
            for at, side in [(at, side) for at in reversed(range(len(box))) for side in (1, 0)]:
                end = box[at][side]
                if box[at][0] < box[at][1] and greatest_at_rest(rows, changed(box, at, (end, end))) is None:
                    pair = (end + 1, box[at][1]) if side == 0 else (box[at][0], end - 1)
                    box = greatest_at_rest(rows, changed(box, at, pair))
                    break
            else:
                return box
        return None


if __name__ == "__main__":
    unittest.main()
