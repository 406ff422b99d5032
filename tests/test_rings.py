"""Points 83 and 84: rounds."""

import itertools
import time
import unittest

from paperbest.rings import (
    next_places, reached_places, reaching_places, ring_leaf, round_draws, round_leaf, round_rests)
from paperbest.tasks import Task
from tests.test_crowds import check_number
from tests.tools import (
    after_draws, changed, generator, holds, leaf_is_right, left_out, made_box, points_of, some_names)

BIG = 10 ** 6


def task_of(places, many, before=()):
    return Task(tuple((name, 0, 1) for name in some_names(many)), tuple(before) + (("round", places),), (0,) * many)


def plain_leaf(task, box, words=("crowd", "ring")):
    """Whether some crowd or ring of the last wish holds over a box, by trying all lots of its unknowns."""
    number = len(task.wishes) - 1
    places = task.wishes[number][1]
    for many in range(1, len(places) + 1):
        for lot in itertools.combinations(places, many):
            a, b = min(box[at][0] for at in lot), max(box[at][1] for at in lot)
            for leaf in (("crowd", number, lot, a, b), ("ring", number, lot)):
                if leaf[0] in words and leaf_is_right(task, (), box, leaf):
                    return True
    return False


def ends_alone(task, box):
    """The boxes made by giving an unknown of the round one of its ends for both."""
    return [changed(box, at, (end, end)) for at in task.wishes[-1][1] for end in box[at]]


def plain_rests(task, box):
    return not any(plain_leaf(task, other) for other in [box] + ends_alone(task, box))


def plain_rest(task, box):
    """The box to which all draws lead, as the document says it; and whether it rests."""
    many = len(task.wishes[-1][1])
    for at in task.wishes[-1][1]:
        box = changed(box, at, (max(box[at][0], 0), min(box[at][1], many - 1)))
    more = True
    while more and not plain_leaf(task, box):
        more = False
        for at in task.wishes[-1][1]:
            for side in (0, 1):
                low, high = box[at]
                end = box[at][side]
                if low < high and plain_leaf(task, changed(box, at, (end, end))):
                    box = changed(box, at, (low + 1, high) if side == 0 else (low, high - 1))
                    more = True
    return box, not plain_leaf(task, box)


def made_case(rng, most=4):
    many = rng.randint(2, most)
    places = tuple(sorted(rng.sample(range(many), rng.randint(2, many))))
    box = []
    for _ in range(many):
        low = rng.choice((-1, 0, 0, 0, 1, 1, 2))
        box.append((low, low + rng.choice((0, 0, 1, 1, 2, 3))))
    return task_of(places, many, (("unlike", (0, 1)),) * rng.randint(0, 1)), tuple(box)


class LeadingTest(unittest.TestCase):
    def test_example(self):
        task = task_of((0, 1, 2), 3)
        box = ((1, 9), (0, 2), (0, 2))
        self.assertEqual(next_places(task=task, number=0, box=box, place=0), (1, 2))
        self.assertEqual(reached_places(task=task, number=0, box=box, place=0), (0, 1, 2))
        self.assertEqual(reaching_places(task=task, number=0, box=box, place=0), (0, 1, 2))
        self.assertEqual(round_leaf(task=task, number=0, box=((1, 1), (0, 0), (0, 2))), ("ring", 0, (0, 1)))
        self.assertEqual(ring_leaf(task=task, number=0, box=((1, 1), (0, 0), (0, 2))), ("ring", 0, (0, 1)))
        self.assertEqual(round_draws(task=task, number=0, box=((0, 0), (0, 2), (0, 2)))[0], "leaf")
        self.assertIs(round_rests(task=task, number=0, box=((1, 1), (2, 2), (0, 0))), True)

    def test_edges(self):
        # Round of the unknowns 1 and 3, whose indices are 0 and 1.
        task = task_of((1, 3), 4)
        for pair, wanted in (((0, 0), (1,)), ((1, 1), (3,)), ((0, 1), (1, 3)), ((-5, 9), (1, 3)), ((2, 9), ()), ((-9, -1), ()),
                             ((1, 5), (3,)), ((-1, 0), (1,))):
            self.assertEqual(next_places(task, 0, ((7, 7), pair, (7, 7), (0, 1)), 1), wanted)
        box = ((7, 7), (1, 1), (7, 7), (1, 1))
        self.assertEqual([reached_places(task, 0, box, place) for place in (1, 3)], [(1, 3), (3,)])
        self.assertEqual([reaching_places(task, 0, box, place) for place in (1, 3)], [(1,), (1, 3)])
        # One comes from each one to itself in no steps.
        box = ((7, 7), (5, 5), (7, 7), (-1, -1))
        self.assertEqual([reached_places(task, 0, box, place) for place in (1, 3)], [(1,), (3,)])
        self.assertEqual([reaching_places(task, 0, box, place) for place in (1, 3)], [(1,), (3,)])

    def test_against_trying(self):
        rng = generator(830)
        for _ in range(600):
            task, box = made_case(rng)
            number = len(task.wishes) - 1
            places = task.wishes[number][1]
            leads = {at: {places[index] for index in range(len(places)) if box[at][0] <= index <= box[at][1]} for at in places}
            reached = {at: {at} for at in places}
            for _ in places:
                reached = {at: some | {other for one in some for other in leads[one]} for at, some in reached.items()}
            for at in places:
                self.assertEqual(next_places(task, number, box, at), tuple(sorted(leads[at])))
                self.assertEqual(reached_places(task, number, box, at), tuple(sorted(reached[at])))
                self.assertEqual(reaching_places(task, number, box, at),
                                 tuple(sorted(other for other in places if at in reached[other])))
            ring = ring_leaf(task, number, box)
            # There is no ring exactly if one can come from each unknown of the round to each other one.
            self.assertEqual(ring is None, all(len(reached[at]) == len(places) for at in places))
            self.assertEqual(ring is not None, plain_leaf(task, box, ("ring",)))
            leaf = round_leaf(task, number, box)
            self.assertEqual(leaf is not None, plain_leaf(task, box))
            for told in (ring, leaf):
                if told is not None:
                    self.assertEqual(told[1], number)
                    self.assertIn(told[0], ("ring", "crowd"))
                    self.assertTrue(leaf_is_right(task, (), box, told), (box, told))
            if ring is not None:
                self.assertEqual(ring[0], "ring")

    def test_one_value_for_each(self):
        for many in (2, 3, 4):
            task = task_of(tuple(range(many)), many)
            for point in points_of(((-1, many),) * many):
                leaf = round_leaf(task, 0, tuple((value, value) for value in point))
                self.assertEqual(leaf is None, holds(task.wishes[0], point))

    def test_numbers(self):
        wishes = (("unlike", (0, 1)), ("round", (0, 1)), ("table", (0,), ((0,),)), ("bench", ((0, 1), (1, 1))), ("round", (0, 1)))
        task = Task((("x", 0, 9), ("y", 0, 9)), wishes, (0, 0))
        calls = [lambda task, number, box, call=call: call(task, number, box, 0)
                 for call in (next_places, reached_places, reaching_places)]
        check_number(self, calls + [ring_leaf, round_leaf, round_rests, round_draws], task, (1, 4))


class DrawsTest(unittest.TestCase):
    def check(self, task, box):
        """Compare draws with what trying tells; returns a word for what was told."""
        number = len(task.wishes) - 1
        self.assertIs(round_rests(task, number, box), plain_rests(task, box), (task.wishes, box))
        told = round_draws(task, number, box)
        self.assertIsInstance(told, tuple)
        if plain_leaf(task, box):
            self.assertEqual((told[0], len(told)), ("leaf", 2))
            self.assertEqual(told[1][1], number)
            self.assertTrue(leaf_is_right(task, (), box, told[1]))
            return "leaf"
        many = len(task.wishes[number][1])
        first = []
        for at in task.wishes[number][1]:
            first += [(at, 0, 0)] if box[at][0] < 0 else []
            first += [(at, 1, many - 1)] if box[at][1] >= many else []
        self.assertEqual(sorted(draw[:3] for draw in told[:len(first)]), first)
        left = after_draws(task, (), box, told)
        self.assertTrue(all(draw[3][0] in ("crowd", "ring") and draw[3][1] == number for draw in told))
        wanted, rests = plain_rest(task, box)
        if not rests:
            self.assertTrue(plain_leaf(task, left))
            return "shut"
        self.assertEqual(left, wanted)
        self.assertTrue(plain_rests(task, left))
        for point in points_of(box):
            if holds(task.wishes[number], point):
                self.assertTrue(all(low <= value <= high for value, (low, high) in zip(point, left)))
        return "draws" if told else "rests"

    def test_against_trying(self):
        rng = generator(840)
        words = [self.check(*made_case(rng)) for _ in range(1500)]
        for word in ("leaf", "draws", "rests"):
            self.assertGreater(words.count(word), 10, word)

    def test_boxes_that_get_a_leaf(self):
        """The document's other end: draws that lead to a box with a leaf."""
        words = []
        for many in (3, 4):
            task = task_of(tuple(range(many)), many)
            pairs = [(low, high) for low in range(many) for high in range(low, many)]
            rng = generator(841)
            for _ in range(2500):
                words.append(self.check(task, tuple(rng.choice(pairs) for _ in range(many))))
        self.assertGreater(words.count("shut"), 0)

    def test_edges(self):
        task = task_of((0, 1, 2), 3)
        for box in (((-5, 9), (-5, 9), (-5, 9)), ((0, 2),) * 3, ((0, 1), (0, 2), (0, 2)), ((1, 1), (2, 2), (0, 0)),
                    ((-1, 1), (2, 2), (0, 3)), ((3, 9), (0, 2), (0, 2)), ((-9, -1), (0, 2), (0, 2))):
            self.check(task, box)
        left = after_draws(task, (), ((-5, 9),) * 3, round_draws(task, 0, ((-5, 9),) * 3))
        self.assertEqual(left, ((1, 2), (0, 2), (0, 1)))
        task = task_of((1, 3), 4)
        self.assertEqual(after_draws(task, (), ((-5, 9),) * 4, round_draws(task, 0, ((-5, 9),) * 4)),
                         ((-5, 9), (1, 1), (-5, 9), (0, 0)))

    def test_limits(self):
        start = time.process_time()
        task = task_of(tuple(range(40)), 40)
        for box in (((-BIG, BIG),) * 40, tuple((max(at - 3, 0), min(at + 3, 39)) for at in range(40)),
                    tuple((at // 2 * 2, at // 2 * 2 + 3) for at in range(40)),
                    tuple((at, min(39, at + 1)) for at in range(39)) + ((0, 39),), made_box(generator(842), 40, 0, 20, 30)):
            told = round_draws(task, 0, box)
            if told[:1] == ("leaf",):
                self.assertTrue(leaf_is_right(task, (), box, told[1]))
                continue
            left = after_draws(task, (), box, told)
            self.assertTrue(round_rests(task, 0, left) or round_leaf(task, 0, left) is not None)
            for draw in told[:1]:
                self.assertEqual(left_out(box, draw)[1], changed(box, draw[0], left_out(box, draw)[1][draw[0]]))
        self.assertLess(time.process_time() - start, 20)


if __name__ == "__main__":
    unittest.main()
