"""Points 46 and 49: draws with trees, and what trees and draws hang on."""

import unittest

from paperbest.papers import cut_row
from paperbest.reasons import cuts_behind, ends_behind, is_draw, is_draws, needed_draws, wishes_behind
from paperbest.tasks import Task, box_of
from tests.tools import (
    KINDS, Hostile, changed, generator, holds, kept_points_of, left_out, names_in, odd_values, points_of, right_tree,
    some_leaves, some_names, some_task, total, tree_is_right)

BIG = 10 ** 6
TASK = Task((("x", 0, 9), ("y", 0, 9)), (("sum", (2, 2), False, 5), ("unlike", (0, 1))), (3, 2))


def leaves_of(tree):
    return leaves_of(tree[3]) + leaves_of(tree[4]) if tree[0] == "split" else [tree]


def plain_ends(task, leaf):
    """The ends that a leaf names."""
    if leaf[0] in ("none", "worth"):
        return {key for key, _ in leaf[1] if key[0] in ("low", "high")}
    wish = task.wishes[leaf[1]]
    if leaf[0] == "shut":
        return {("high" if times > 0 else "low", at) for item in wish[1] for at, times in enumerate(item[1]) if times}
    if leaf[0] in ("crowd", "ring"):
        places = leaf[2]
    elif leaf[0] == "late":
        places = [wish[1][job][0] for job in leaf[2:4]]
    elif leaf[0] in ("load", "full"):
        places = [wish[1][job][0] for job in leaf[2]]
    else:
        places = names_in(wish)
    return {(word, place) for word in ("low", "high") for place in places}


def some_draws(rng, task, worth=None, most=6):
    """Draws with leaves or trees, made by chance, over the box of a task, and the box that is left."""
    box, draws = box_of(task), []
    for _ in range(40):
        at, side = rng.randrange(len(box)), rng.randint(0, 1)
        low, high = box[at]
        if low == high or len(draws) == most:
            continue
        end = rng.randint(low + 1, high) if side == 0 else rng.randint(low, high - 1)
        out, after = left_out(box, (at, side, end, None))
        try:
            tree = right_tree(rng, task, out, worth)
        except AssertionError:
            continue
        draws.append((at, side, end, tree))
        box = after
    return tuple(draws), box


class DrawsTest(unittest.TestCase):
    def test_right_draws(self):
        rng = generator(460)
        trees = many = 0
        for _ in range(500):
            task = some_task(rng, most=4)
            worth = rng.choice((None, rng.randint(-6, 6)))
            draws, box = some_draws(rng, task, worth)
            self.assertTrue(is_draws(task=task, cuts=(), box=box_of(task), other=box, value=draws, worth=worth))
            if worth is None:
                self.assertTrue(is_draws(task, (), box_of(task), box, draws))
            many += len(draws)
            inner = box_of(task)
            for draw in draws:
                self.assertTrue(is_draw(task=task, cuts=(), box=inner, value=draw, worth=worth))
                trees += draw[3][0] == "split"
                inner = left_out(inner, draw)[1]
            # No point that keeps the task (with a worth: of a lesser worth) is lost.
            kept = [point for point in kept_points_of(task) if worth is None or total(task.goal, point) < worth]
            self.assertTrue(all(low <= value <= high for point in kept for value, (low, high) in zip(point, box)))
            if draws:
                self.assertFalse(is_draws(task, (), box_of(task), box_of(task), draws, worth))
                self.assertFalse(is_draws(task, (), box_of(task), box, draws[:-1], worth))
                self.assertFalse(is_draws(task, (), box_of(task), box, draws[:-1] + (7,), worth))
                at, side, end, tree = draws[0]
                wrong = [(at, side, end), (at, side, end, tree, tree), [at, side, end, tree], (at, 2, end, tree),
                         (len(box), side, end, tree), (-1, side, end, tree), (at, side, box_of(task)[at][side], tree),
                         (at, side, box_of(task)[at][1 - side] + (1 - 2 * side), tree), (at, side, end, ("none", ()))]
                for draw in wrong:
                    self.assertFalse(is_draw(task, (), box_of(task), draw, worth))
        self.assertGreater(many, 500)
        self.assertGreater(trees, 100)

    def test_ends(self):
        task = Task((("x", 0, 4), ("y", 0, 9)), (("table", (0,), ((2,),)),), (0, 0))
        out = ("out", 0)
        for side, right in ((0, (1, 2)), (1, (2, 3))):
            for end in range(-2, 7):
                self.assertEqual(is_draw(task, (), box_of(task), (0, side, end, out)), end in right)
        self.assertTrue(is_draws(task, (), box_of(task), ((2, 2), (0, 9)), ((0, 0, 2, out), (0, 1, 2, out))))
        self.assertTrue(is_draws(task, (), box_of(task), box_of(task), ()))
        self.assertFalse(is_draws(task, (), box_of(task), ((0, 4), (0, 8)), ()))
        # A draw that leaves nothing out is none.
        self.assertFalse(is_draw(task, (), box_of(task), (0, 0, 0, out)))
        self.assertFalse(is_draw(task, (), box_of(task), (0, 1, 4, out)))

    def test_any_values(self):
        for value in odd_values() + [(0, 0, 1, value) for value in odd_values()] + [
                (value, 0, 1, ("none", ())) for value in odd_values()] + [(0, value, 1, ("none", ())) for value in odd_values()] + [
                (0, 0, value, ("none", ())) for value in odd_values()] + [("split", 0, 0, Hostile(), Hostile())]:
            self.assertIs(is_draw(TASK, (), box_of(TASK), value), False)
            self.assertIs(is_draws(TASK, (), box_of(TASK), ((1, 9), (0, 9)), value, 3), False)
            self.assertIs(is_draws(TASK, (), box_of(TASK), ((1, 9), (0, 9)), (value,), 3), False)

    def test_limits(self):
        size = 40
        task = Task(tuple((name, -BIG, BIG) for name in some_names(size)), (("sum", (BIG,) * size, False, BIG * BIG * size - BIG * 7),), (0,) * size)
        leaf = ("none", tuple((("high", at), (BIG, 1)) for at in range(size)) + ((("row", 0), (1, 1)),))
        draws = tuple((at, 0, BIG - 7, leaf) for at in range(size))
        self.assertTrue(is_draws(task, (), box_of(task), ((BIG - 7, BIG),) * size, draws))
        self.assertFalse(is_draw(task, (), box_of(task), (0, 0, BIG - 6, leaf)))
        self.assertEqual(ends_behind(task, leaf), tuple(("high", at) for at in range(size)))
        self.assertEqual(needed_draws(task, draws, (("low", 3), ("low", 39), ("high", 5))), (draws[3], draws[39]))

    def test_cuts_and_worths(self):
        cuts = (((1, 1), False, 3),)
        leaf = ("none", ((("cut", 0), (1, 1)), (("high", 0), (1, 1)), (("high", 1), (1, 1))))
        box = ((0, 9), (0, 2))
        self.assertTrue(is_draw(TASK, cuts, box, (0, 0, 1, leaf)))
        self.assertFalse(is_draw(TASK, (), box, (0, 0, 1, leaf)))
        self.assertFalse(is_draw(TASK, cuts, box, (0, 0, 2, leaf)))
        leaf = ("worth", ((("low", 0), (3, 1)), (("low", 1), (2, 1))))
        self.assertTrue(is_draw(TASK, (), box, (0, 1, 1, leaf), 6))
        self.assertFalse(is_draw(TASK, (), box, (0, 1, 1, leaf), 7))
        self.assertFalse(is_draw(TASK, (), box, (0, 1, 1, leaf)))


class BehindTest(unittest.TestCase):
    def test_trees(self):
        rng = generator(490)
        seen = {}
        for _ in range(600):
            task = some_task(rng, most=4)
            draws, _ = some_draws(rng, task, rng.choice((None, 0)))
            for _, _, _, tree in draws:
                leaves = leaves_of(tree)
                for leaf in leaves:
                    seen[leaf[0]] = True
                numbers = {leaf[1] for leaf in leaves if leaf[0] not in ("none", "worth")}
                numbers |= {key[1] for leaf in leaves if leaf[0] in ("none", "worth") for key, _ in leaf[1] if key[0] == "row"}
                self.assertEqual(wishes_behind(tree=tree), tuple(sorted(numbers)))
                self.assertEqual(cuts_behind(tree=tree), ())
                ends = set().union(*[plain_ends(task, leaf) for leaf in leaves])
                self.assertEqual(ends_behind(task=task, tree=tree), tuple(sorted(ends)))
        self.assertLessEqual({"none", "worth", "crowd", "out", "shut", "late", "broken"}, set(seen))

    def test_each_word(self):
        wishes = (("sum", (1, 0, 2, 0), False, 3), ("unlike", (0, 2)), ("table", (3, 1), ((0, 0),)),
                  ("either", (("sum", (1, 0, 0, 0), False, 9), ("sum", (0, -1, 0, 2), False, 9))),
                  ("bench", ((0, 2), (2, 1), (3, 1))), ("room", ((1, 2, 1), (2, 1, 1), (3, 5, 1)), 1), ("round", (0, 1, 3)))
        task = Task((("a", 0, 9), ("b", 0, 9), ("c", 0, 9), ("d", 0, 9)), wishes, (0, 0, 0, 1))

        def both(*places):
            return tuple(sorted((word, place) for word in ("low", "high") for place in places))

        multipliers = ((("cut", 2), (1, 2)), (("cut", 5), (1, 1)), (("high", 1), (1, 1)), (("low", 3), (2, 1)), (("row", 0), (1, 1)))
        for leaf, ends, numbers, cuts in (
                (("none", multipliers), (("high", 1), ("low", 3)), (0,), (2, 5)), (("worth", multipliers), (("high", 1), ("low", 3)), (0,), (2, 5)),
                (("none", ()), (), (), ()), (("crowd", 1, (0, 2), 1, 1), both(0, 2), (1,), ()), (("out", 2), both(1, 3), (2,), ()),
                (("shut", 3), (("high", 0), ("high", 3), ("low", 1)), (3,), ()), (("late", 4, 0, 2), both(0, 3), (4,), ()),
                (("load", 4, (1, 2), 0, 1), both(2, 3), (4,), ()), (("late", 5, 0, 1), both(1, 2), (5,), ()),
                (("full", 5, (0, 2), 4), both(1, 3), (5,), ()), (("ring", 6, (1,)), both(1), (6,), ()),
                (("crowd", 6, (0, 3), 0, 0), both(0, 3), (6,), ()), (("broken", 0), both(0, 2), (0,), ()),
                (("broken", 3), both(0, 1, 3), (3,), ()), (("broken", 4), both(0, 2, 3), (4,), ()), (("broken", 6), both(0, 1, 3), (6,), ())):
            self.assertEqual((ends_behind(task, leaf), wishes_behind(leaf), cuts_behind(leaf)), (ends, numbers, cuts), leaf)
            deep, shared = leaf, ("broken", 1)
            for step in range(500):
                deep = ("split", 0, step, deep, shared)
            self.assertEqual(ends_behind(task, deep), tuple(sorted(set(ends + both(0, 2)))))
            self.assertEqual((wishes_behind(deep), cuts_behind(deep)), (tuple(sorted({1, *numbers})), cuts))

    def test_leaves_hang_on_their_ends(self):
        rng = generator(491)
        checked = 0
        for _ in range(600):
            task = some_task(rng, most=3)
            box = tuple(sorted((rng.randint(low, high), rng.randint(low, high))) for low, high in box_of(task))
            box = tuple(tuple(pair) for pair in box)
            for leaf in some_leaves(task, box, 2):
                ends = ends_behind(task, leaf)
                other = tuple((low if ("low", at) in ends else low - rng.randint(0, 9), high if ("high", at) in ends else high + rng.randint(0, 9))
                              for at, (low, high) in enumerate(box))
                self.assertTrue(tree_is_right(task, (), other, leaf, 2))
                checked += other != box
        self.assertGreater(checked, 300)

    def test_wishes_behind_say_it(self):
        rng = generator(492)
        checked = 0
        while checked < 100:
            task = some_task(rng, most=4)
            if kept_points_of(task):
                continue
            tree = right_tree(rng, task, box_of(task))
            wishes = [task.wishes[k] for k in wishes_behind(tree)]
            self.assertFalse([point for point in points_of(box_of(task)) if all(holds(wish, point) for wish in wishes)])
            checked += 1

    def test_needed_draws(self):
        rng = generator(493)
        fewer = 0
        for _ in range(600):
            task = some_task(rng, most=4)
            worth = rng.choice((None, rng.randint(-6, 6)))
            draws, box = some_draws(rng, task, worth, 8)
            every = [(word, at) for at in range(len(box)) for word in ("low", "high")]
            ends = tuple(rng.sample(every, rng.randint(0, 4)))
            kept = needed_draws(task=task, draws=draws, ends=ends)
            asked, wanted = set(ends), []
            for draw in draws[::-1]:
                end = (("low", "high")[draw[1]], draw[0])
                if end in asked:
                    wanted = [draw] + wanted
                    asked = (asked - {end}) | set(ends_behind(task, draw[3]))
            self.assertEqual(kept, tuple(wanted))
            inner = box_of(task)
            for draw in kept:
                self.assertTrue(is_draw(task, (), inner, draw, worth))
                inner = left_out(inner, draw)[1]
            for word, at in ends:
                self.assertEqual(inner[at][word == "high"], box[at][word == "high"])
            fewer += 0 < len(kept) < len(draws)
            self.assertEqual(needed_draws(task, draws, ()), ())
        self.assertGreater(fewer, 100)

    def test_cuts_behind_made_ones(self):
        multipliers = ((("row", 0), (1, 2)),)
        self.assertEqual(cut_row(TASK, (), multipliers), ((1, 1), False, 3))
        tree = ("split", 0, 3, ("worth", ((("cut", 3), (2, 1)), (("low", 0), (1, 1)))), ("none", ((("cut", 0), (2, 1)),)))
        self.assertEqual((wishes_behind(tree), cuts_behind(tree), ends_behind(TASK, tree)), ((), (0, 3), (("low", 0),)))
        self.assertEqual(len(KINDS), 7)


if __name__ == "__main__":
    unittest.main()
