"""Points 56 and 57: cheapest points of unlikes."""

import time
import unittest

from paperbest.cheapest import cheapest_unlike, is_cheapest
from paperbest.tasks import Task
from tests.test_crowds import check_number
from tests.tools import Hostile, generator, holds, made_box, odd_values, points_of, some_names

BIG = 10 ** 6
UNKNOWNS = (("x", 0, 5), ("y", 0, 5), ("z", 0, 5))
TASK = Task(UNKNOWNS, (("unlike", (0, 1, 2)), ("table", (2, 0), ((1, 4), (3, 0), (5, 5)))), (2, 1, 2))
BOX = ((0, 1), (0, 5), (0, 1))


def cost(task, number, point):
    return sum(task.goal[at] * point[at] for at in task.wishes[number][1])


def plain_shows(task, number, box, point, prices):
    """Whether a point of the box and prices show that no point costs less, by going through all values."""
    table = dict(prices)
    shown = -sum(table.values())
    for at in task.wishes[number][1]:
        low, high = box[at]
        shown += min(task.goal[at] * value + table.get(value, 0) for value in range(low, high + 1))
    return holds(task.wishes[number], point) and cost(task, number, point) == shown


def made_case(rng, most=4, width=4):
    many = rng.randint(2, most)
    places = tuple(sorted(rng.sample(range(many), rng.randint(2, many))))
    goal = tuple(rng.choice((0, 0, 1, 1, -1, 2, -3)) for _ in range(many))
    task = Task(tuple((name, 0, 1) for name in some_names(many)), (("round", (0, 1)), ("unlike", places)), goal)
    return task, made_box(rng, many, -2, 2, width)


class CheapestTest(unittest.TestCase):
    def test_example(self):
        self.assertEqual(cheapest_unlike(task=TASK, number=0, box=BOX)[0][1], 2)
        self.assertIs(is_cheapest(task=TASK, number=0, box=BOX, value=((0, 2, 1), ((0, 3), (1, 1)))), True)

    def check(self, task, number, box):
        """Compare with trying all points; returns how many cheapest ones there are."""
        kept = [point for point in points_of(box) if holds(task.wishes[number], point)]
        told = cheapest_unlike(task, number, box)
        if not kept:
            self.assertIsNone(told)
            return 0
        self.assertIsInstance(told, tuple)
        point, prices = told
        self.assertIn(point, kept)
        named = task.wishes[number][1]
        self.assertTrue(all(point[at] == box[at][0] for at in range(len(box)) if at not in named))
        self.assertIsInstance(prices, tuple)
        self.assertEqual([value for value, _ in prices], sorted({value for value, _ in prices}))
        self.assertTrue(all(price > 0 for _, price in prices))
        self.assertTrue(plain_shows(task, number, box, point, prices), (task.goal, box, told))
        least = min(cost(task, number, other) for other in kept)
        # Only points of the least cost can be shown, and each of them can, here by the same prices.
        for other in kept:
            self.assertIs(is_cheapest(task, number, box, (other, prices)), cost(task, number, other) == least)
        return len({tuple(other[at] for at in named) for other in kept if cost(task, number, other) == least})

    def test_against_trying(self):
        rng = generator(560)
        numbers = [self.check(task, 1, box) for task, box in [made_case(rng) for _ in range(1500)]]
        for number in (0, 1, 2):
            self.assertGreater(numbers.count(number), 20)
        self.assertGreater(max(numbers), 5)

    def test_edges(self):
        for goal, box in (
                ((0, 0, 0), BOX), ((0, 0, 0), ((0, 1), (0, 1), (0, 1))), ((5, 5, 5), ((0, 2),) * 3), ((-5, -5, -5), ((0, 2),) * 3),
                ((5, -5, 0), ((0, 9),) * 3), ((1, 1, 1), ((0, 1), (0, 1), (0, 1))), ((1, 2, 3), ((3, 3), (4, 4), (5, 5))),
                ((-1, 2, -3), ((-3, -1), (-3, -1), (-3, 0))), ((1, 1, -1), ((0, 9), (0, 0), (0, 1)))):
            self.check(Task(UNKNOWNS, TASK.wishes, goal), 0, box)
        self.assertIsNone(cheapest_unlike(TASK, 0, ((1, 2), (1, 2), (1, 2))))

    def test_is_cheapest(self):
        """Points and prices of all kinds, right and wrong ones, are told apart as the document says."""
        rng = generator(561)
        right = 0
        for _ in range(4000):
            task, box = made_case(rng, 3, 3)
            point = tuple(rng.randint(low, high) for low, high in box)
            values = sorted(rng.sample(range(-4, 7), rng.randint(0, 3)))
            prices = tuple((value, rng.randint(1, 3)) for value in values)
            wanted = plain_shows(task, 1, box, point, prices)
            self.assertIs(is_cheapest(task, 1, box, (point, prices)), wanted, (task.goal, box, point, prices))
            right += wanted
        self.assertGreater(right, 200)

    def test_a_little_too_much_or_too_little(self):
        point, prices = (0, 2, 1), ((0, 3), (1, 1))
        for value, wanted in (
                ((point, prices), True), (((1, 2, 0), prices), True), (((0, 3, 1), prices), False), (((0, 2, 0), prices), False),
                ((point, ((0, 4), (1, 1))), False), ((point, ((0, 3), (1, 2))), False), ((point, ((0, 3),)), False), ((point, ()), False),
                ((point, ((0, 4), (1, 2))), True), ((point, ((0, 5), (1, 3))), True), ((point, ((0, 4), (1, 2), (2, 1))), True),
                ((point, ((0, 3), (1, 1), (9, 1))), False), ((point, ((-7, 1), (0, 3), (1, 1))), False)):
            self.assertEqual(plain_shows(TASK, 0, BOX, *value), wanted, value)
            self.assertIs(is_cheapest(TASK, 0, BOX, value), wanted, value)

    def test_any_values(self):
        point, prices = (0, 2, 1), ((0, 3), (1, 1))
        wrong = odd_values() + [
            [point, prices], (point,), (point, prices, prices), (point, list(prices)), (list(point), prices), (point, None),
            (None, prices), (Hostile(), prices), (point, Hostile()), (point + (0,), prices), (point[:2], prices), (point, prices[::-1]),
            (point, prices + prices[1:]), (point, ((0, 3), (1, 1), (2, 0))), (point, ((0, 3), (1, 1), (2, -1))),
            (point, ((0, 3), [1, 1])), (point, ((0, 3), (1, 1, 1))), (point, ((0, 3), (1.0, 1))), (point, ((0, 3), (True, 1))),
            (point, ((0, 3), (1, True))), (point, (Hostile(),)), (point, ((0, Hostile()),)), ((0, 2, True), prices),
            ((False, 2, 1), prices), ((0, 2.0, 1), prices), ((0, Hostile(), 1), prices), ((0, 6, 1), prices), ((0, 2, 2), prices),
            ((-1, 2, 1), prices), (point, ((0, 1), (0, 2), (1, 1)))]
        for value in wrong:
            self.assertIs(is_cheapest(TASK, 0, BOX, value), False, value)

    def test_numbers(self):
        wishes = (("round", (0, 1)), ("unlike", (0, 1)), ("table", (0,), ((0,),)), ("unlike", (0, 1)), ("sum", (1, 1), False, 0))
        task = Task((("x", 0, 9), ("y", 0, 9)), wishes, (0, 0))
        check_number(self, (cheapest_unlike, lambda task, number, box: is_cheapest(task, number, box, None)), task, (1, 3))

    def test_limits(self):
        rng = generator(562)
        names = some_names(40)
        start = time.process_time()
        for goal in ((BIG,) * 40, (0,) * 40, (-BIG,) * 40, tuple(rng.randint(-BIG, BIG) for _ in range(40)),
                     tuple(rng.randint(1, 3) for _ in range(40)), tuple(range(40))):
            task = Task(tuple((name, -BIG, BIG) for name in names), (("unlike", tuple(range(40))),), goal)
            for box in (((-BIG, BIG),) * 40, ((0, 39),) * 40, tuple((rng.randint(0, 20), rng.randint(21, 60)) for _ in range(40)),
                        tuple((at, at + 3) for at in range(40))):
                told = cheapest_unlike(task, 0, box)
                self.assertIs(is_cheapest(task, 0, box, told), True)
                if len(set(goal)) == 1 and box[0] == (-BIG, BIG):
                    wanted = sum(abs(goal[0]) * (-BIG + at) for at in range(40))
                    self.assertEqual(cost(task, 0, told[0]), wanted)
            self.assertIsNone(cheapest_unlike(task, 0, ((0, 38),) * 40))
        self.assertLess(time.process_time() - start, 30)


if __name__ == "__main__":
    unittest.main()
