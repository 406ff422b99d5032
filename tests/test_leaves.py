"""Points 28 and 29: leaves and draws."""

import unittest

from paperbest.leaves import box_after, draw_holds, leaf_holds, tree_after
from paperbest.tasks import Task
from tests.tools import (
    KINDS, Hostile, changed, generator, given, holds_all, leaf_is_right, left_out, made_box, made_wish, odd_values,
    points_of, some_names, total)

BIG = 10 ** 6
WISHES = (
    ("sum", (2, 2, 0), False, 5), ("sum", (1, -1, 0), True, 1), ("unlike", (0, 1, 2)),
    ("table", (2, 0), ((1, 4), (3, 0), (5, 5))),
    ("either", (("sum", (1, 0, 0), False, 4), ("sum", (0, -1, 1), False, 2))),
    ("bench", ((0, 3), (1, 2), (2, 4))), ("room", ((0, 3, 2), (1, 2, 3), (2, 4, 1)), 4), ("round", (0, 1, 2)))
SUM, EQUAL, UNLIKE, TABLE, EITHER, BENCH, ROOM, ROUND = range(8)
TASK = Task((("x", 0, 9), ("y", 0, 9), ("z", 0, 9)), WISHES, (3, 2, 0))
CUTS = (((1, 1, 0), False, 3),)
WIDE = ((0, 9), (0, 9), (0, 9))


class LeavesTest(unittest.TestCase):
    def check(self, leaf, box, wanted, worth=None, task=TASK, cuts=CUTS):
        told = leaf_holds(task, cuts, box, leaf, worth)
        self.assertIs(told, wanted, (leaf, box, worth))
        self.assertEqual(leaf_is_right(task, cuts, box, leaf, worth), wanted)

    def test_worth(self):
        leaf = ("worth", ((("low", 0), (1, 1)), (("row", SUM), (1, 1))))
        for worth, wanted in ((5, True), (6, False), (4, True), (-BIG, True), (None, False)):
            self.check(leaf, WIDE, wanted, worth)
        # The bound 9/2 is rounded up.
        half = ("worth", ((("cut", 0), (3, 2)), (("low", 0), (3, 2)), (("low", 1), (1, 2))))
        self.check(half, WIDE, True, 5)
        self.check(half, WIDE, False, 6)
        self.check(half, ((1, 9), (0, 9), (0, 9)), True, 6)
        # Another sum than the goal.
        self.check(("worth", ((("row", SUM), (1, 1)),)), WIDE, False, 0)
        self.check(("worth", ()), WIDE, False, -1)
        self.check(("worth", ((("low", 0), (3, 1)), (("low", 1), (2, 1)), (("low", 2), (1, 1)))), WIDE, False, -9)
        flat = Task(TASK.unknowns, WISHES, (0, 0, 0))
        self.check(("worth", ()), WIDE, True, 0, flat)
        self.check(("worth", ()), WIDE, False, 1, flat)

    def test_none(self):
        leaf = ("none", ((("high", 0), (1, 1)), (("high", 1), (1, 1)), (("row", SUM), (1, 2))))
        self.check(leaf, ((0, 1), (0, 1), (0, 9)), True)
        self.check(leaf, ((0, 1), (0, 1), (0, 9)), True, 7)
        self.check(leaf, ((0, 2), (0, 1), (0, 9)), False)
        cut = ("none", ((("cut", 0), (2, 1)), (("high", 0), (2, 1)), (("high", 1), (2, 1))))
        self.check(cut, ((0, 1), (0, 1), (0, 9)), True)
        # A bound of just 0 is not above 0.
        self.check(cut, ((0, 2), (0, 1), (0, 9)), False)
        equal = ("none", ((("high", 1), (1, 1)), (("low", 0), (1, 1)), (("row", EQUAL), (-1, 1))))
        self.check(equal, ((3, 9), (0, 1), (0, 9)), True)
        self.check(equal, ((2, 9), (0, 1), (0, 9)), False)
        self.check(("none", ()), WIDE, False)
        both = ("none", ((("high", 0), (1, 3)), (("low", 0), (1, 3))))
        self.check(both, ((3, 3), (0, 1), (0, 9)), False)
        # Not all 0 is given.
        self.check(("none", ((("low", 0), (1, 1)),)), ((3, 3), (0, 1), (0, 9)), False)

    def test_multipliers_that_are_none(self):
        box = ((0, 1), (0, 1), (0, 9))
        high = ((("high", 0), (1, 1)), (("high", 1), (1, 1)))
        self.assertIs(leaf_holds(TASK, CUTS, box, ("none", high + ((("row", SUM), (1, 2)),)), None), True)
        for value in (
                high[::-1] + ((("row", SUM), (1, 2)),), list(high + ((("row", SUM), (1, 2)),)),
                high + ((("row", SUM), (2, 4)),), high + ((("row", SUM), (-1, 2)),), high + ((("row", SUM), (0, 1)),),
                high + ((("row", UNLIKE), (1, 2)),), high + ((("row", 9), (1, 2)),), high + ((("cut", 1), (1, 1)),),
                high + ((("low", 3), (1, 2)),), high + (None,), high + (Hostile(),), high + ((("row", True), (1, 2)),),
                high + ((("row", SUM), (1, 2)),) * 2, ((("high", 0), (-1, 1)),), ((["high", 0], (1, 1)),)):
            self.assertIs(leaf_holds(TASK, CUTS, box, ("none", value), None), False, value)

    def test_crowd(self):
        for k in (UNLIKE, ROUND):
            self.check(("crowd", k, (0, 1, 2), 1, 2), ((1, 2), (1, 2), (2, 2)), True)
            self.check(("crowd", k, (0, 1), 2, 2), ((2, 2), (2, 2), (0, 9)), True)
            self.check(("crowd", k, (0, 1), -1, -1), ((-1, -1), (-1, -1), (0, 9)), True)
            self.check(("crowd", k, (0, 1), 1, 2), ((1, 2), (1, 2), (2, 2)), False)
            self.check(("crowd", k, (0, 1, 2), 1, 2), ((1, 2), (0, 2), (2, 2)), False)
            self.check(("crowd", k, (0, 1, 2), 1, 2), ((1, 2), (1, 3), (2, 2)), False)
            self.check(("crowd", k, (0, 1), 3, 2), WIDE, False)
            self.check(("crowd", k, (), 2, 2), WIDE, False)
        for k in (SUM, TABLE, EITHER, BENCH, ROOM):
            self.check(("crowd", k, (0, 1, 2), 1, 2), ((1, 2), (1, 2), (2, 2)), False)
        pair = Task(TASK.unknowns, (("unlike", (0, 2)),), (0, 0, 0))
        self.check(("crowd", 0, (0, 2), 1, 1), ((1, 1),) * 3, True, None, pair)
        # A place that the wish does not name, or one that is no unknown.
        self.check(("crowd", 0, (0, 1, 2), 1, 1), ((1, 1),) * 3, False, None, pair)
        for places in ((2, 0), (0, 0, 2), [0, 2], (0, 3), (False, 2), (-1, 0, 2), (0, None), Hostile(), None):
            self.assertIs(leaf_holds(pair, (), ((1, 1),) * 3, ("crowd", 0, places, 1, 1), None), False, places)
        for first, last in ((1.0, 1), (1, True), (True, 1), (None, 1), (1, Hostile())):
            self.assertIs(leaf_holds(pair, (), ((1, 1),) * 3, ("crowd", 0, (0, 2), first, last), None), False)

    def test_out(self):
        self.check(("out", TABLE), ((4, 4), (0, 9), (3, 5)), True)
        self.check(("out", TABLE), ((4, 5), (0, 9), (3, 5)), False)
        self.check(("out", TABLE), ((1, 3), (0, 9), (0, 9)), True)
        self.check(("out", TABLE), ((-BIG, 0), (0, 9), (4, BIG)), True)
        self.check(("out", TABLE), ((0, 0), (0, 9), (3, 3)), False)

    def test_shut(self):
        self.check(("shut", EITHER), ((0, 3), (4, 9), (0, 5)), True)
        self.check(("shut", EITHER), ((0, 4), (4, 9), (0, 5)), False)
        self.check(("shut", EITHER), ((0, 3), (4, 9), (0, 6)), False)
        self.check(("shut", EITHER), ((0, 3), (3, 9), (0, 5)), False)

    def test_late(self):
        for k in (BENCH, ROOM):
            self.check(("late", k, 0, 1), ((3, 5), (4, 5), (0, 9)), True)
            # Each one just has the time to end before the other one starts.
            self.check(("late", k, 0, 1), ((2, 5), (4, 5), (0, 9)), False)
            self.check(("late", k, 0, 1), ((3, 6), (4, 5), (0, 9)), False)
            for i, j in ((1, 0), (0, 0), (0, 3), (-1, 0), (False, 1), (0, True), (None, 1), (0, Hostile())):
                self.assertIs(leaf_holds(TASK, (), ((3, 5), (4, 5), (0, 9)), ("late", k, i, j), None), False)
        self.check(("late", BENCH, 1, 2), ((0, 9), (4, 4), (4, 4)), True)
        # These two need just the size.
        self.check(("late", ROOM, 1, 2), ((0, 9), (4, 4), (4, 4)), False)
        self.check(("late", UNLIKE, 0, 1), ((3, 5), (4, 5), (0, 9)), False)

    def test_load(self):
        self.check(("load", BENCH, (0, 1, 2), 1, 9), ((1, 6), (2, 7), (1, 5)), True)
        self.check(("load", BENCH, (0, 1, 2), 1, 10), ((1, 6), (2, 7), (1, 5)), False)
        self.check(("load", BENCH, (0, 1, 2), 2, 9), ((1, 6), (2, 7), (1, 5)), False)
        self.check(("load", BENCH, (0, 1, 2), 1, 8), ((1, 6), (2, 7), (1, 5)), False)
        self.check(("load", ROOM, (0, 1, 2), 1, 5), ((1, 1), (1, 3), (1, 1)), False)
        self.check(("load", ROOM, (0, 1), 1, 4), ((1, 1), (1, 2), (1, 1)), False)
        self.check(("load", ROOM, (0, 1), 1, 3), ((1, 0), (1, 1), (1, 1)), True)
        self.check(("load", BENCH, (), 3, 3), WIDE, False)
        self.check(("load", BENCH, (), 4, 3), WIDE, False)
        for lot in ((2, 1, 0), (0, 1, 2, 3), [0, 1, 2], (0, True, 2), None, Hostile(), (0, Hostile())):
            self.assertIs(leaf_holds(TASK, (), ((1, 6), (2, 7), (1, 5)), ("load", BENCH, lot, 1, 9), None), False)

    def test_full(self):
        self.check(("full", ROOM, (0, 1), 4), ((2, 4), (3, 4), (0, 9)), True)
        self.check(("full", ROOM, (0, 1), 4), ((1, 4), (3, 4), (0, 9)), False)
        self.check(("full", ROOM, (0, 1), 4), ((2, 5), (3, 4), (0, 9)), False)
        self.check(("full", ROOM, (1, 2), 4), ((2, 4), (3, 4), (4, 4)), False)
        self.check(("full", ROOM, (0, 1, 2), 4), ((2, 4), (3, 4), (4, 4)), True)
        self.check(("full", BENCH, (0, 1), 4), ((2, 4), (3, 4), (0, 9)), False)
        self.check(("full", ROOM, (), 4), WIDE, False)
        for moment in (4.0, True, None, Hostile(), (4,)):
            self.assertIs(leaf_holds(TASK, (), ((2, 4), (3, 4), (0, 9)), ("full", ROOM, (0, 1), moment), None), False)

    def test_ring(self):
        self.check(("ring", ROUND, (0, 1)), ((1, 1), (0, 1), (0, 9)), True)
        self.check(("ring", ROUND, (0, 1)), ((-9, 1), (0, 0), (0, 9)), True)
        self.check(("ring", ROUND, (0, 1)), ((1, 2), (0, 1), (0, 9)), False)
        self.check(("ring", ROUND, (2,)), (WIDE[0], WIDE[1], (2, 9)), True)
        self.check(("ring", ROUND, (2,)), (WIDE[0], WIDE[1], (3, 9)), True)
        self.check(("ring", ROUND, ()), WIDE, False)
        self.check(("ring", ROUND, (0, 1, 2)), WIDE, False)
        self.check(("ring", UNLIKE, (0, 1)), ((1, 1), (0, 1), (0, 9)), False)
        apart = Task(TASK.unknowns, (("round", (0, 2)),), (0, 0, 0))
        # The index of the last unknown is 1.
        self.check(("ring", 0, (2,)), (WIDE[0], WIDE[1], (1, 1)), True, None, apart)
        self.check(("ring", 0, (2,)), (WIDE[0], WIDE[1], (0, 1)), False, None, apart)
        self.check(("ring", 0, (1,)), ((1, 1),) * 3, False, None, apart)
        for places in ((1, 0), [0, 1], (0, 0), (0, True), (0, 5), None, Hostile(), (Hostile(),)):
            self.assertIs(leaf_holds(TASK, (), ((1, 1), (0, 1), (0, 9)), ("ring", ROUND, places), None), False)

    def test_broken(self):
        for k, inside, breaking in (
                (SUM, (1, 2, 0), (1, 1, 0)), (EQUAL, (2, 1, 0), (3, 1, 0)), (UNLIKE, (0, 1, 2), (0, 1, 0)),
                (TABLE, (4, 0, 1), (4, 0, 2)), (EITHER, (4, 0, 0), (3, 0, 1)), (BENCH, (0, 3, 5), (0, 2, 5)),
                (ROOM, (0, 3, 0), (0, 2, 0)), (ROUND, (1, 2, 0), (1, 0, 2))):
            self.check(("broken", k), tuple((value, value) for value in breaking), True)
            self.check(("broken", k), tuple((value, value) for value in inside), False)
            for at in range(3):
                box = changed(tuple((value, value) for value in breaking), at, (breaking[at], breaking[at] + 1))
                # A sum and a table do not name all.
                named = (at < 2) if k in (SUM, EQUAL) else at != 1 if k == TABLE else True
                self.check(("broken", k), box, not named)

    def test_any_values(self):
        box = ((1, 1),) * 3
        for value in odd_values() + [
                ("broken",), ("broken", -1), ("broken", 8), ("broken", True), ("broken", 2, 2), ("Broken", 2),
                ("broken", Hostile()), ("broken", 2.0), ["broken", 2], (["broken"], 2), ("out", 2), ("out", 3, 0),
                ("none",), ("none", None), ("none", [], ()), ("worth",), ("worth", Hostile()), ("here",), ("split", 0),
                ("late", 5, 0), ("load", 5, (0,), 0), ("full", 6, (0,)), ("ring", 7), ("crowd", 2, (0, 1), 1),
                (Hostile(), 2), ("split", 0, 3, ("broken", 2), ("broken", 2)), (None, 2), (1, 2)]:
            for worth in (None, 3):
                self.assertIs(leaf_holds(TASK, CUTS, box, value, worth), False)
        self.assertIs(leaf_holds(task=TASK, cuts=CUTS, box=box, value=("broken", 2), worth=None), True)

    def test_no_point_keeps_the_task(self):
        rng = generator(28)
        held = dict.fromkeys(("crowd", "out", "shut", "late", "load", "full", "ring", "broken"), 0)
        for _ in range(2500):
            many = rng.randint(2, 3)
            wish = made_wish(rng, many, rng.choice(KINDS))
            task = Task(tuple((name, -9, 9) for name in some_names(many)), (wish,), (0,) * many)
            box = made_box(rng, many, -1, 2, 2)
            lots = [tuple(sorted(rng.sample(range(many), rng.randint(1, many)))) for _ in range(3)]
            leaves = [("out", 0), ("shut", 0), ("broken", 0), ("late", 0, 0, 1), ("late", 0, 1, 2)]
            for lot in lots:
                a = min(box[at][0] for at in lot)
                b = max(box[at][1] for at in lot)
                leaves.extend([("crowd", 0, lot, a, b - rng.randint(0, 1)), ("ring", 0, lot),
                               ("load", 0, lot, a, b + rng.randint(0, 2)), ("full", 0, lot, b + rng.randint(-1, 1))])
            for leaf in leaves:
                told = leaf_holds(task, (), box, leaf, None)
                fits = wish[0] in ("bench", "room") or leaf[0] not in ("late", "load", "full")
                right = fits and leaf_is_right(task, (), box, leaf)
                self.assertIs(told, right, (wish, box, leaf))
                if told:
                    held[leaf[0]] += 1
                    self.assertFalse(any(holds_all(task, point) for point in points_of(box)), (wish, box, leaf))
        self.assertGreater(min(held.values()), 10, held)

    def test_sums_that_hold(self):
        rng = generator(29)
        held = 0
        for _ in range(1500):
            wish = ("sum", (rng.randint(1, 2), rng.randint(-2, 2)), rng.random() < 0.5, rng.randint(-4, 8))
            task = Task((("x", -9, 9), ("y", -9, 9)), (wish,), (rng.randint(0, 2), rng.randint(-2, 2)))
            cuts = (((rng.randint(0, 1), 1), False, rng.randint(-2, 3)),)
            box = made_box(rng, 2, -2, 2, 2)
            keys = sorted(rng.sample((("row", 0), ("cut", 0), ("low", 0), ("low", 1), ("high", 0), ("high", 1)), 3))
            times = tuple((key, (rng.choice((1, 1, 2, 3)), 1)) for key in keys)
            form, bound = given(task, cuts, box, times)
            for word, worth in (("none", None), ("worth", 1), ("worth", -3)):
                told = leaf_holds(task, cuts, box, (word, times), worth)
                self.assertIs(told, leaf_is_right(task, cuts, box, (word, times), worth))
                if told:
                    held += 1
                    for point in points_of(box):
                        if holds_all(task, point) and total(cuts[0][0], point) >= cuts[0][2]:
                            self.assertTrue(word == "worth" and total(task.goal, point) >= worth)
        self.assertGreater(held, 30)

    def test_limits(self):
        many = 40
        unknowns = tuple((name, -BIG, BIG) for name in some_names(many))
        everything = tuple(range(many))
        lots = tuple((at,) * many for at in range(400))
        wishes = (("sum", (BIG,) * many, False, BIG), ("unlike", everything), ("table", everything, lots),
                  ("either", (("sum", (BIG,) * many, False, 1),) * 6), ("round", everything),
                  ("room", tuple((at, BIG, BIG) for at in everything), BIG))
        task = Task(unknowns, wishes, (0,) * many)
        box = ((-BIG, -BIG),) * many
        ends = tuple((("high", at), (BIG, 1)) for at in everything)
        for leaf in (("none", ends + ((("row", 0), (1, 1)),)), ("crowd", 1, everything, -BIG, -BIG), ("out", 2),
                     ("shut", 3), ("ring", 4, everything[:1]), ("late", 5, 38, 39), ("broken", 5),
                     ("load", 5, everything, -BIG, 0), ("full", 5, everything, -1)):
            self.assertIs(leaf_holds(task, (), box, leaf, None), True, leaf)
            self.assertIs(leaf_holds(task, (), ((-BIG, BIG),) * many, leaf, None), False, leaf)


class DrawsTest(unittest.TestCase):
    def test_draw_holds(self):
        box = ((1, 2), (1, 2), (1, 5))
        leaf = ("crowd", UNLIKE, (0, 1, 2), 1, 2)
        self.assertIs(draw_holds(task=TASK, cuts=CUTS, box=box, value=(2, 0, 3, leaf), worth=None), True)
        self.assertIs(draw_holds(TASK, CUTS, box, (2, 0, 2, leaf), None), True)
        self.assertIs(draw_holds(TASK, CUTS, box, (2, 0, 4, leaf), None), False)
        self.assertIs(draw_holds(TASK, CUTS, ((4, 5), (4, 5), (1, 5)), (2, 1, 3, leaf[:3] + (4, 5)), 7), True)
        self.assertIs(draw_holds(TASK, CUTS, ((4, 5), (4, 5), (1, 5)), (2, 1, 2, leaf[:3] + (4, 5)), 7), False)

    def test_ends(self):
        # The leaf holds over any box here.
        task = Task((("x", 0, 9),), (("sum", (1,), False, 99),), (1,))
        leaf = ("none", ((("high", 0), (1, 1)), (("row", 0), (1, 1))))
        for side, wanted in ((0, (3, 4, 5)), (1, (2, 3, 4))):
            told = [end for end in range(-1, 9) if draw_holds(task, (), ((2, 5),), (0, side, end, leaf), None)]
            self.assertEqual(told, list(wanted))
        self.assertIs(draw_holds(task, (), ((2, 2),), (0, 0, 2, leaf), None), False)
        for value in odd_values() + [
                (0, 0, 3), (0, 0, 3, leaf, 0), (1, 0, 3, leaf), (-1, 0, 3, leaf), (0, 2, 3, leaf), (0, -1, 3, leaf),
                (False, 0, 3, leaf), (0, False, 3, leaf), (0, True, 3, leaf), (0, 0, 3.0, leaf), (0, 0, None, leaf),
                (0, 0, Hostile(), leaf), (Hostile(), 0, 3, leaf), (0, Hostile(), 3, leaf), (0, 0, 3, Hostile()),
                (0, 0, 3, None), [0, 0, 3, leaf], (0, 0, 3, ("none", ())), (0, 0, 3, ("split", 0, 2, leaf, leaf))]:
            self.assertIs(draw_holds(task, (), ((2, 5),), value, None), False)

    def test_box_after(self):
        box = ((1, 2), (-3, 4))
        self.assertEqual(box_after(box=box, draw=(1, 0, 0, ())), ((1, 2), (0, 4)))
        self.assertEqual(box_after(box, (1, 1, 0, ())), ((1, 2), (-3, 0)))
        self.assertEqual(box_after(box, (0, 0, 2, None)), ((2, 2), (-3, 4)))

    def test_tree_after(self):
        self.assertEqual(tree_after(draws=(), tree=("out", 3)), ("out", 3))
        draws = ((0, 0, 3, "one"), (1, 1, 5, "two"), (0, 1, 7, "three"))
        self.assertEqual(tree_after(draws, "last"), (
            "split", 0, 2, "one", ("split", 1, 5, ("split", 0, 7, "last", "three"), "two")))

    def test_sides_of_trees_have_the_boxes_of_their_draws(self):
        rng = generator(30)
        for _ in range(200):
            box = made_box(rng, 3, width=6)
            draws, boxes, left = [], [], box
            for number in range(rng.randint(0, 5)):
                at = rng.randrange(3)
                low, high = left[at]
                if low < high:
                    side = rng.randint(0, 1)
                    draws.append((at, side, rng.randint(low + 1, high) if side == 0 else rng.randint(low, high - 1),
                                  ("leaf", number)))
                    out, left = left_out(left, draws[-1])
                    boxes.append((out, ("leaf", number)))
                    self.assertEqual(box_after(box, draws[-1])[:at], box[:at])
            boxes.append((left, ("rest",)))
            found, waiting = [], [(box, tree_after(tuple(draws), ("rest",)))]
            while waiting:
                now, node = waiting.pop()
                if node[0] != "split":
                    found.append((now, node))
                    continue
                _, at, k, lower, upper = node
                self.assertTrue(now[at][0] <= k < now[at][1])
                waiting.append((changed(now, at, (now[at][0], k)), lower))
                waiting.append((changed(now, at, (k + 1, now[at][1])), upper))
            self.assertEqual(sorted(found), sorted(boxes))


if __name__ == "__main__":
    unittest.main()
