"""Point 22: counting."""

import math
import unittest

from paperbest.counting import count_kept, count_work
from paperbest.errors import Refused
from paperbest.wishes import named_by
from tests.tools import KINDS, generator, holds, made_box, made_wish, points_of, total

BIG = 10 ** 6


def plain_work(wish, box):
    """The work, as the document tells it."""
    named = sum(box[at][1] - box[at][0] + 1 for at in named_by(wish))
    if wish[0] == "table":
        return len(wish[2])
    if wish[0] in ("sum", "either"):
        product = 1
        for item in [wish] if wish[0] == "sum" else wish[1]:
            totals = [total(item[1], corner) for corner in points_of_corners(box)]
            product *= max(totals) - min(totals) + 1
        return product * named
    many = len(wish[1])
    if wish[0] == "unlike":
        return 3 ** many
    if wish[0] == "round":
        return many * 2 ** many
    moments = max(box[job[0]][1] for job in wish[1]) - min(box[job[0]][0] for job in wish[1]) + 1
    lengths = [job[1] for job in wish[1]]
    if wish[0] == "bench":
        return 2 ** many * max(lengths) * moments
    return math.prod(length + 2 for length in lengths) * moments


def points_of_corners(box):
    if not box:
        yield ()
        return
    for rest in points_of_corners(box[1:]):
        for end in box[0]:
            yield (end,) + rest


class CountingTest(unittest.TestCase):
    def test_examples(self):
        self.assertEqual(count_kept(("unlike", (0, 1, 2)), ((0, 9), (0, 9), (5, 14))), 810)
        self.assertEqual(count_kept(wish=("bench", ((0, 3), (1, 4))), box=((0, 10), (2, 8), (0, 1))), 72)

    def test_each_kind_against_all_points(self):
        rng = generator(22)
        for kind in KINDS:
            counted = refused = 0
            for _ in range(250):
                many = rng.randint(2, 5)
                wish, box = made_wish(rng, many, kind, rng.choice((1, 3))), made_box(rng, many, -2, 2, 3)
                work = plain_work(wish, box)
                self.assertEqual(count_work(wish, box), work, (wish, box))
                if work > 20000:
                    refused += 1
                    with self.assertRaises(Refused) as caught:
                        count_kept(wish, box)
                    self.assertEqual(caught.exception.word, "size")
                    continue
                counted += 1
                self.assertEqual(
                    count_kept(wish, box), sum(holds(wish, point) for point in points_of(box)), (wish, box))
            self.assertGreater(counted, 100, kind)

    def test_work_at_the_edge(self):
        unlike = ("unlike", tuple(range(9)))
        self.assertEqual(count_work(wish=unlike, box=((0, 8),) * 10), 3 ** 9)
        self.assertEqual(count_kept(unlike, ((0, 8),) * 9 + ((1, 2),)), math.factorial(9) * 2)
        self.assertEqual(count_kept(unlike, ((-BIG, BIG),) * 9), math.perm(2 * BIG + 1, 9))
        for wish, box in ((("unlike", tuple(range(10))), ((0, 0),) * 10), (("round", tuple(range(11))), ((0, 0),) * 11),
                          (("unlike", tuple(range(40))), ((0, 0),) * 40), (("round", tuple(range(40))), ((0, 0),) * 40),
                          (("sum", (1,), False, 0), ((0, 141),)), (("sum", (3333,), False, 0), ((0, 2),))):
            with self.assertRaises(Refused) as caught:
                count_kept(wish, box)
            self.assertEqual(caught.exception.word, "size")
        # (140 + 1) * 141 is 19881, just below the limit.
        self.assertEqual(count_kept(("sum", (1,), False, 100), ((0, 140),)), 41)
        self.assertEqual(count_work(("sum", (1,), False, 100), ((0, 140),)), 19881)
        # 20,000 is not above the limit.
        self.assertEqual(count_work(("sum", (999, 0), False, 0), ((0, 1), (0, 9))), 2000)
        self.assertEqual(count_work(("sum", (9999,), False, 0), ((0, 1),)), 20000)
        self.assertEqual(count_kept(("sum", (9999,), True, 9999), ((0, 1),)), 1)
        self.assertEqual(count_work(("sum", (3333,), False, 0), ((0, 2),)), 20001)

    def test_boxes_far_larger_than_the_work(self):
        wide = (-BIG, BIG)
        self.assertEqual(count_kept(("sum", (1, 0), False, 1), ((0, 3), wide)), 3 * (2 * BIG + 1))
        lots = tuple((at, -at) for at in range(400))
        self.assertEqual(count_kept(("table", (2, 0), lots), (wide, wide, wide)), 400 * (2 * BIG + 1))
        self.assertEqual(count_kept(("table", (2, 0), lots), ((-10, BIG), wide, wide)), 11 * (2 * BIG + 1))
        self.assertEqual(count_kept(("round", tuple(range(10))), (wide,) * 10), math.factorial(9))
        self.assertEqual(count_kept(("round", (0, 1)), (wide, (1, 5), wide)), 0)
        jobs = tuple((at, 1) for at in range(7))
        self.assertEqual(count_kept(("bench", jobs), ((0, 99),) * 7 + (wide,)), math.perm(100, 7) * (2 * BIG + 1))
        self.assertEqual(count_kept(("room", ((0, 1, 1), (1, 1, 1)), 1), ((0, 999), (0, 999))), 1000 * 999)
        room = ("room", tuple((at, 1, 1) for at in range(5)), 4)
        self.assertEqual(count_kept(room, ((0, 79),) * 5), 80 ** 5 - 80)

    def test_nothing_kept(self):
        self.assertEqual(count_kept(("unlike", (0, 1, 2)), ((0, 1),) * 3), 0)
        self.assertEqual(count_kept(("bench", ((0, 2), (1, 2))), ((0, 1), (0, 1))), 0)
        self.assertEqual(count_kept(("sum", (1, 1), False, 9), ((0, 1), (0, 1))), 0)


if __name__ == "__main__":
    unittest.main()
