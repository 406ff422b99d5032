"""Points 2, 7, 8, 9 and 11: wishes and their normal form."""

import itertools
import unittest

from paperbest.rows import row_follows, tight_row
from paperbest.wishes import is_wish, named_by, normal_wishes, sum_wish
from tests.tools import KINDS, generator, holds, made_wish, odd_values, points_of

BIG = 10 ** 6

RIGHT = (
    ("sum", (1, 0, -2), False, 0), ("sum", (0, 0, 1), True, -BIG),
    ("unlike", (0, 1)), ("unlike", (0, 1, 2)),
    ("table", (2, 0), ((-1, 5), (0, 0))), ("table", (1,), ((7,),)),
    ("either", (("sum", (1, 0, 0), False, 0), ("sum", (1, 0, 0), False, 0))),
    ("either", (("sum", (1, 2, 3), False, 0),) * 6),
    ("bench", ((0, 1), (2, BIG))),
    ("room", ((0, 1, 1), (2, 5, 3)), 3),
    ("round", (0, 2)), ("round", (0, 1, 2)))

WRONG = (
    ("sum", (1, 0), False, 0), ("sum", (1, 0, 0, 0), False, 0), ("sum", (0, 0, 0), False, 0),
    ("sum", (1, 0, True), False, 0), ("sum", (1, 0, 0), 0, 0), ("sum", (1, 0, 0), 1, 0), ("sum", (1, 0, 0), None, 0),
    ("sum", (1, 0, 0), False, True), ("sum", (1, 0, 0), False, (0, 1)), ("sum", [1, 0, 0], False, 0),
    ("sum", (1, 0, 0), False), ("sum", (1, 0, 0), False, 0, 0), ["sum", (1, 0, 0), False, 0],
    ("sum", (1.0, 0, 0), False, 0),
    ("unlike", (0,)), ("unlike", ()), ("unlike", (1, 0)), ("unlike", (0, 0)), ("unlike", (0, 3)),
    ("unlike", (-1, 0)), ("unlike", [0, 1]), ("unlike", (False, True)), ("unlike", (0, 1), 0), ("unlike",),
    ("table", (), ((),)), ("table", (0, 0), ((1, 1),)), ("table", (0,), ()), ("table", (0,), ((1, 2),)),
    ("table", (0,), ((1,), (1,))), ("table", (0,), ((2,), (1,))), ("table", (3,), ((1,),)), ("table", (0,), [(1,)]),
    ("table", (0,), ([1],)), ("table", (0,), (1,)), ("table", (0,), ((True,),)), ("table", [0], ((1,),)),
    ("table", (0,)), ("table", (0,), ((1,),), 0), ("table", (True,), ((1,),)),
    ("either", (("sum", (1, 0, 0), False, 0),)), ("either", (("sum", (1, 0, 0), False, 0),) * 7), ("either", ()),
    ("either", (("sum", (1, 0, 0), False, 0), ("sum", (1, 0, 0), True, 0))),
    ("either", (("sum", (1, 0, 0), False, 0), ("unlike", (0, 1)))),
    ("either", (("sum", (1, 0, 0), False, 0), ("sum", (1, 0), False, 0))),
    ("either", [("sum", (1, 0, 0), False, 0)] * 2), ("either", (("sum", (1, 0, 0), False, 0),) * 2, 0),
    ("either", (("sum", (1, 0, 0), False, 0), ())), ("either", (("sum", (1, 0, 0), False, 0), None)),
    ("bench", ((0, 1),)), ("bench", ((1, 1), (0, 1))), ("bench", ((0, 1), (0, 1))), ("bench", ((0, 0), (1, 1))),
    ("bench", ((0, -1), (1, 1))), ("bench", ((0, 1), (3, 1))), ("bench", ((0, True), (1, 1))),
    ("bench", ((0, 1, 1), (1, 1, 1))), ("bench", ([0, 1], [1, 1])), ("bench", [(0, 1), (1, 1)]),
    ("bench", ((0, 1), (1, 1)), 1), ("bench", ((0, 1), 1)),
    ("room", ((0, 1, 1), (1, 1, 2)), 1), ("room", ((0, 1, 1), (1, 1, 0)), 1), ("room", ((0, 1, 1), (1, 0, 1)), 1),
    ("room", ((0, 1, 1),), 1), ("room", ((0, 1, 1), (1, 1, 1))), ("room", ((0, 1, 1), (1, 1, 1)), True),
    ("room", ((1, 1, 1), (0, 1, 1)), 1), ("room", ((0, 1), (1, 1)), 1), ("room", ((0, 1, 1), (1, 1, 1)), None),
    ("room", ((0, 1, 1), (1, 1, 1)), 1, 1), ("room", ((0, 1, 1), (1, 1, True)), 1),
    ("round", (0,)), ("round", (1, 0)), ("round", (0, 3)), ("round", (0, 1), 2), ("round", [0, 1]),
    ("rounds", (0, 1)), ("", (0, 1)), (("unlike",), (0, 1)), (b"unlike", (0, 1)), "unlike", ())


class WishTest(unittest.TestCase):
    def test_right_and_wrong(self):
        for wish in RIGHT:
            self.assertIs(is_wish(wish, 3), True, wish)
        for wish in WRONG:
            self.assertIs(is_wish(wish, 3), False, wish)
        for value in odd_values():
            self.assertIs(is_wish(value=value, size=2), False)
        self.assertIs(is_wish(("unlike", (0, 1)), 1), False)
        self.assertIs(is_wish(("sum", (1,), False, 0), 1), True)

    def test_odd_items(self):
        """An odd value in any place of a right wish is refused, if it is no right one there."""
        for wish in RIGHT:
            for value in odd_values():
                if isinstance(value, int) or repr(value) in ("(1, 2)", "(0,)"):
                    continue
                for changed in with_item(wish, value):
                    # The odd value may be the very item whose place it takes.
                    if repr(changed) == repr(wish):
                        continue
                    self.assertIs(is_wish(changed, 3), False, changed)

    def test_many_unknowns(self):
        self.assertTrue(is_wish(("unlike", tuple(range(40))), 40))
        self.assertTrue(is_wish(("table", tuple(range(40)), tuple((at,) * 40 for at in range(400))), 40))
        self.assertFalse(is_wish(("table", tuple(range(40)), ((0,) * 39,)), 40))

    def test_sum_wish(self):
        self.assertEqual(sum_wish(((1, -2), True, 3)), ("sum", (1, -2), True, 3))
        self.assertEqual(sum_wish(row=((1, -2), False, 3)), ("sum", (1, -2), False, 3))

    def test_named_by(self):
        for wish, places in zip(RIGHT, (
                (0, 2), (2,), (0, 1), (0, 1, 2), (0, 2), (1,), (0,), (0, 1, 2), (0, 2), (0, 2), (0, 2), (0, 1, 2))):
            self.assertEqual(named_by(wish=wish), places, wish)
        either = ("either", (("sum", (0, 0, 1, 0), False, 0), ("sum", (0, 1, 0, 0), False, 0)))
        self.assertEqual(named_by(either), (1, 2))


def with_item(value, item):
    """All values that are like the first one, with the item in one place."""
    yield item
    if isinstance(value, tuple):
        for at in range(len(value)):
            for inner in with_item(value[at], item):
                yield value[:at] + (inner,) + value[at + 1:]


class NormalTest(unittest.TestCase):
    def check(self, wishes, normal):
        self.assertEqual(normal_wishes(wishes=tuple(wishes)), tuple(normal))
        self.assertEqual(normal_wishes(tuple(normal)), tuple(normal))

    def test_sums(self):
        self.check((), ())
        self.check([("sum", (2, 4), False, 3)] * 2, [("sum", (1, 2), False, 2)])
        self.check([("sum", (2, 4), False, 3), ("sum", (1, 2), False, 3)], [("sum", (1, 2), False, 3)])
        self.check([("sum", (-1, 2), True, 3), ("sum", (1, -2), False, -3), ("sum", (-1, 2), False, 3)],
                   [("sum", (1, -2), True, -3)])
        self.check([("sum", (-1, 2), True, 3), ("sum", (1, -2), False, -2)],
                   [("sum", (1, -2), False, -2), ("sum", (1, -2), True, -3)])
        self.check([("sum", (2, 2), True, 3), ("sum", (0, 1), False, 5), ("sum", (0, 4), True, 6)],
                   [("sum", (2, 0), True, 1)])

    def test_order(self):
        wishes = [("unlike", (0, 1)), ("round", (0, 1)), ("sum", (1, 0), False, 2), ("bench", ((0, 1), (1, 1))),
                  ("unlike", (0, 1)), ("sum", (0, 1), False, 2), ("table", (0,), ((2,),))]
        self.check(wishes, sorted(set(wishes)))

    def test_tables(self):
        self.check([("table", (1, 0), ((1, 4), (2, 0)))], [("table", (0, 1), ((0, 2), (4, 1)))])
        self.check([("table", (2, 0, 1), ((1, 2, 3), (1, 2, 4), (5, 0, 0)))],
                   [("table", (0, 1, 2), ((0, 0, 5), (2, 3, 1), (2, 4, 1)))])

    def test_eithers(self):
        x, y = ("sum", (1, 0), False, 2), ("sum", (0, 1), False, 3)
        self.check([("either", (y, x, ("sum", (2, 0), False, 3)))], [("either", (y, x))])
        self.check([("either", (("sum", (1, 0), False, 4), x))], [x])
        self.check([("either", (("sum", (2, 0), False, 4), x))], [x])
        self.check([("either", (x, y)), ("sum", (1, 0), False, 5)], [("sum", (1, 0), False, 5)])
        self.check([("either", (x, y)), ("sum", (0, 2), True, 6)], [("sum", (0, 1), True, 3)])
        self.check([("either", (x, y)), ("sum", (1, 0), False, 1)], [("either", (y, x)), ("sum", (1, 0), False, 1)])
        # An either that becomes a sum lets others be left out too.
        self.check([("either", (x, y)), ("either", (x, ("sum", (1, 0), False, 9)))], [x])
        self.check([("either", (x, ("sum", (1, 0), False, 9))), ("sum", (3, 0), False, -2)], [x])

    def test_rooms(self):
        self.check([("room", ((0, 2, 2), (1, 2, 1)), 3)], [])
        self.check([("room", ((0, 2, 2), (1, 2, 2)), 3)], [("room", ((0, 2, 2), (1, 2, 2)), 3)])

    def test_kept_by_the_same_points(self):
        rng = generator(9)
        for _ in range(600):
            wishes = tuple(made_wish(rng, 3, rng.choice(KINDS)) for _ in range(rng.randint(1, 6)))
            normal = normal_wishes(wishes)
            self.assertEqual(normal_wishes(normal), normal)
            self.assertEqual(list(normal), sorted(set(normal)))
            for wish in normal:
                self.assertTrue(is_wish(wish, 3))
            for point in points_of(((-1, 3), (-1, 3), (-2, 3))):
                self.assertEqual(all(holds(wish, point) for wish in wishes),
                                 all(holds(wish, point) for wish in normal))

    def test_nothing_more_is_left_out(self):
        rng = generator(11)
        for _ in range(800):
            kinds = ("sum", "either", "either")
            wishes = tuple(made_wish(rng, 2, rng.choice(kinds), 2) for _ in range(rng.randint(1, 5)))
            normal = normal_wishes(wishes)
            sums = [wish for wish in normal if wish[0] == "sum"]
            for one, other in itertools.permutations(sums, 2):
                self.assertFalse(row_follows(one[1:], other[1:]))
            for wish in normal:
                if wish[0] == "sum":
                    self.assertEqual(tight_row(wish[1:]), wish[1:])
                    continue
                self.assertEqual(list(wish[1]), sorted(set(wish[1])))
                for one, other in itertools.permutations(wish[1], 2):
                    self.assertFalse(row_follows(one[1:], other[1:]))
                for item in wish[1]:
                    self.assertEqual(tight_row(item[1:]), item[1:])
                    self.assertFalse(any(row_follows(one[1:], item[1:]) for one in sums))
            again = list(wishes)
            rng.shuffle(again)
            self.assertEqual(normal_wishes(tuple(again)), normal)

    def test_limits(self):
        rng = generator(12)
        wishes = tuple(made_wish(rng, 40, rng.choice(KINDS), BIG) for _ in range(60))
        normal = normal_wishes(wishes)
        self.assertEqual(normal_wishes(normal), normal)
        lots = tuple(sorted({tuple(rng.randint(-BIG, BIG) for _ in range(40)) for _ in range(400)}))
        turned = ("table", tuple(reversed(range(40))), tuple(sorted(lot[::-1] for lot in lots)))
        self.assertEqual(normal_wishes((turned,) * 60), (("table", tuple(range(40)), lots),))


if __name__ == "__main__":
    unittest.main()
