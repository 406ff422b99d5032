"""Point 72: what is missed."""

import itertools
import time
import unittest

from paperbest.lacks import best_value, lack, miss
from paperbest.tasks import Task
from tests.tools import (
    KINDS, changed, generator, holds, load, made_box, made_wish, moments_of, size, some_names, total)

BIG = 10 ** 6


def plain_lack(wish, point):
    """What a wish lacks, by trying changes and going through moments."""
    if wish[0] == "sum":
        short = wish[3] - total(wish[1], point)
        return abs(short) if wish[2] else max(0, short)
    if wish[0] == "either":
        return min(plain_lack(item, point) for item in wish[1])
    if wish[0] in ("bench", "room"):
        return sum(max(0, load(wish, point, moment) - size(wish)) for moment in moments_of(wish, point))
    places = wish[1]
    for many in range(len(places) + 1):
        for chosen in itertools.combinations(range(len(places)), many):
            if can_be_kept(wish, point, chosen):
                return many
    raise AssertionError(wish)


def can_be_kept(wish, point, chosen):
    """Whether a wish can be kept if the chosen ones of its unknowns get any values."""
    left = {at: point[place] for at, place in enumerate(wish[1]) if at not in chosen}
    if wish[0] == "unlike":
        return len(set(left.values())) == len(left)
    if wish[0] == "table":
        return any(all(lot[at] == value for at, value in left.items()) for lot in wish[2])
    many = len(wish[1])
    for rest in itertools.permutations(range(1, many)):
        leads = dict(zip((0,) + rest, rest + (0,)))
        if all(leads[at] == value for at, value in left.items()):
            return True
    return False


def plain_best(task, box, point, at):
    ranks = []
    for value in range(box[at][0], box[at][1] + 1):
        other = changed(point, at, value)
        missed = sum(plain_lack(wish, other) for wish in task.wishes)
        ranks.append((missed, total(task.goal, other), abs(value - point[at]), value))
    return min(ranks)[3]


class LackTest(unittest.TestCase):
    def test_edges(self):
        for wish, point, wanted in (
                (("sum", (2, 1), False, 5), (2, 1), 0), (("sum", (2, 1), False, 5), (2, 0), 1),
                (("sum", (2, 1), False, 5), (9, 0), 0), (("sum", (2, 1), True, 5), (9, 0), 13),
                (("sum", (2, 1), True, 5), (0, 0), 5),
                (("either", (("sum", (1, 0), False, 3), ("sum", (0, 2), False, 5))), (1, 2), 1),
                (("unlike", (0, 1, 2, 3)), (1, 1, 1, 2), 2),
                (("table", (0, 1), ((1, 2), (3, 4))), (1, 4), 1), (("table", (0, 1), ((1, 2), (3, 4))), (3, 4), 0),
                (("table", (0, 1), ((1, 2), (3, 4))), (2, 5), 2),
                (("bench", ((0, 2), (1, 3))), (0, 2), 0), (("bench", ((0, 2), (1, 3))), (0, 0), 2),
                (("bench", ((0, 2), (1, 3), (2, 2))), (0, 0, 0), 4),
                (("room", ((0, 3, 2), (1, 2, 2)), 3), (0, 1), 2), (("room", ((0, 3, 2), (1, 2, 2)), 3), (0, 3), 0),
                (("round", (0, 1, 2, 3)), (1, 0, 3, 2), 2), (("round", (0, 1, 2, 3)), (1, 2, 3, 0), 0),
                (("round", (0, 1, 2, 3)), (0, 1, 2, 3), 4), (("round", (0, 1, 2, 3)), (1, 2, 0, 0), 1),
                (("round", (0, 1, 2, 3)), (9, -1, 4, 7), 4), (("round", (0, 1)), (1, 1), 1),
                (("round", (0, 1, 2)), (1, 2, 1), 1)):
            self.assertEqual(lack(wish=wish, point=point), wanted, (wish, point))

    def test_each_kind_against_trying(self):
        rng = generator(72)
        for kind in KINDS:
            for _ in range(250):
                wish = made_wish(rng, rng.randint(2, 6) if kind == "round" else 4, kind)
                point = tuple(rng.randint(-1, 6) for _ in range(6))
                self.assertEqual(lack(wish, point), plain_lack(wish, point), (wish, point))
                self.assertEqual(lack(wish, point) == 0, holds(wish, point))

    def test_all_leads_of_small_rounds(self):
        for many in (2, 3, 4, 5):
            wish = ("round", tuple(range(many)))
            for point in itertools.product(range(-1, many + 1) if many < 5 else range(many), repeat=many):
                self.assertEqual(lack(wish, point), plain_lack(wish, point), point)

    def test_miss(self):
        wishes = (("sum", (1, 1), False, 5), ("unlike", (0, 1)), ("sum", (1, 1), False, 5))
        task = Task((("x", 0, 9), ("y", 0, 9)), wishes, (1, 1))
        self.assertEqual(miss(task=task, point=(1, 1)), 7)
        self.assertEqual(miss(task, (2, 3)), 0)
        # The ranges do not matter.
        self.assertEqual(miss(task, (-20, 30)), 0)
        self.assertEqual(miss(Task(task.unknowns, (), (1, 1)), (0, 0)), 0)

    def test_limits(self):
        jobs = tuple((at, BIG, BIG) for at in range(40))
        self.assertEqual(lack(("room", jobs, BIG), (0,) * 40), 39 * BIG * BIG)
        self.assertEqual(lack(("sum", (BIG,) * 40, True, -BIG), (BIG,) * 40), 40 * BIG * BIG + BIG)
        self.assertEqual(lack(("round", tuple(range(40))), tuple((at + 2) % 40 for at in range(40))), 2)


class BestValueTest(unittest.TestCase):
    def test_ties(self):
        task = Task((("x", 0, 9), ("y", 0, 9)), (("sum", (1, 0), False, 3),), (0, 0))
        box = ((0, 9), (0, 9))
        self.assertEqual(best_value(task=task, box=box, point=(1, 0), at=0), 3)
        self.assertEqual(best_value(task, box, (7, 0), 0), 7)
        self.assertEqual(best_value(task, ((0, 2), (0, 9)), (1, 0), 0), 2)
        self.assertEqual(best_value(task, box, (1, 6), 1), 6)
        for goal, wanted in (((1, 0), 3), ((-1, 0), 9)):
            self.assertEqual(best_value(Task(task.unknowns, task.wishes, goal), box, (7, 0), 0), wanted)
        # Of two equally near values the lower one.
        unlike = Task((("x", 0, 9), ("y", 0, 9)), (("unlike", (0, 1)),), (0, 0))
        self.assertEqual(best_value(unlike, box, (5, 5), 0), 4)
        self.assertEqual(best_value(unlike, ((5, 9), (0, 9)), (5, 5), 0), 6)
        # The values of a box, not of the task.
        self.assertEqual(best_value(task, ((-5, -2), (0, 9)), (-4, 0), 0), -2)

    def test_against_trying(self):
        rng = generator(73)
        for count in range(1200):
            many = rng.randint(2, 4)
            kinds = (rng.choice(KINDS),) if count % 2 else KINDS
            wishes = tuple(made_wish(rng, many, rng.choice(kinds), 4) for _ in range(rng.randint(0, 4)))
            goal = tuple(rng.choice((0, 0, 1, -2)) for _ in range(many))
            task = Task(tuple((name, 0, 1) for name in some_names(many)), wishes, goal)
            box = made_box(rng, many, -4, 2, rng.choice((0, 3, 12)))
            point = tuple(rng.randint(low, high) for low, high in box)
            for at in range(many):
                self.assertEqual(best_value(task, box, point, at), plain_best(task, box, point, at),
                                 (wishes, goal, box, point, at))

    def test_wide_ranges_and_large_coefficients(self):
        rng = generator(74)
        for _ in range(60):
            wishes = []
            for _ in range(rng.randint(1, 3)):
                kind = rng.choice(("sum", "either"))
                wish = made_wish(rng, 2, kind, 9)
                if kind == "sum":
                    wishes.append(wish[:3] + (rng.randint(-900, 900),))
                else:
                    wishes.append((kind, tuple(item[:3] + (rng.randint(-900, 900),) for item in wish[1])))
            goal = (rng.choice((0, 1, -1)), 0)
            task = Task((("x", 0, 1), ("y", 0, 1)), tuple(wishes), goal)
            box = ((-300, 300), (-40, 40))
            point = (rng.randint(-300, 300), rng.randint(-40, 40))
            self.assertEqual(best_value(task, box, point, 0), plain_best(task, box, point, 0))

    def test_limits(self):
        rng = generator(75)
        wide = ((-BIG, BIG),) * 40
        unknowns = tuple((name, -BIG, BIG) for name in some_names(40))
        # x is drawn to just below 10^6 / 3 by a sum, and then the nearest value is taken.
        sums = (("sum", (-3,) + (0,) * 39, False, -BIG), ("sum", (7,) + (0,) * 39, False, -6 * BIG))
        task = Task(unknowns, sums, (0,) * 40)
        self.assertEqual(best_value(task, wide, (BIG,) + (0,) * 39, 0), BIG // 3)
        self.assertEqual(best_value(task, wide, (-BIG,) + (0,) * 39, 0), -(6 * BIG // 7))
        lots = tuple(sorted({tuple(rng.randint(-BIG, BIG) for _ in range(4)) for _ in range(400)}))
        wishes = (("table", (0, 5, 6, 7), lots),) * 20
        wishes += (("room", tuple((at, rng.randint(1, BIG), 5) for at in range(40)), 9),) * 20
        wishes += (("unlike", tuple(range(40))), ("round", tuple(range(40)))) * 10
        point = tuple(rng.randint(-BIG, BIG) for _ in range(40))
        start = time.perf_counter()
        value = best_value(Task(unknowns, wishes, (1,) * 40), wide, point, 0)
        self.assertLess(time.perf_counter() - start, 20)
        own = miss(Task(unknowns, wishes, (1,) * 40), changed(point, 0, value))
        for other in (-BIG, BIG, 0, point[0], max(value - 1, -BIG), min(value + 1, BIG)):
            self.assertLessEqual(own, miss(Task(unknowns, wishes, (1,) * 40), changed(point, 0, other)))


if __name__ == "__main__":
    unittest.main()
