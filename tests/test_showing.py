"""Point 21: what shows that wishes are kept or broken."""

import itertools
import unittest

from paperbest.showing import is_shown, shown
from tests.tools import (
    KINDS, Hostile, generator, holds, load, made_wish, moments_of, odd_values, size, total, triples)

BIG = 10 ** 6


def plain_shown(wish, point, value):
    """Whether a pair of a truth and a value of the right form shows it, as the document says it."""
    kept, told = value
    kind, places = wish[0], wish[1]
    if kind == "sum":
        return told == total(wish[1], point) and kept == holds(wish, point)
    if kind == "unlike":
        if kept:
            return sorted(told) == list(places) and all(point[i] < point[j] for i, j in zip(told, told[1:]))
        return (len(told) == 2 and told[0] < told[1] and set(told) <= set(places)
                and point[told[0]] == point[told[1]])
    if kind == "table":
        values = tuple(point[at] for at in places)
        if kept:
            return 0 <= told < len(wish[2]) and wish[2][told] == values
        return values not in wish[2] and told == sum(1 for lot in wish[2] if lot < values)
    if kind == "either":
        if kept:
            return 0 <= told < len(wish[1]) and holds(wish[1][told], point)
        totals = tuple(total(item[1], point) for item in wish[1])
        return told == totals and all(item < part[3] for item, part in zip(totals, wish[1]))
    if kind in ("bench", "room"):
        spans = [(point[place], point[place] + length, need) for place, length, need in triples(wish)]
        if kind == "bench" and kept:
            return (sorted(told) == list(range(len(spans)))
                    and all(spans[i][1] <= spans[j][0] for i, j in zip(told, told[1:])))
        if kind == "bench":
            return (len(told) == 2 and 0 <= told[0] < told[1] < len(spans)
                    and any(all(spans[i][0] <= moment < spans[i][1] for i in told) for moment in moments_of(wish, point)))
        if kept:
            needs = tuple(load(wish, point, start) for start, _, _ in spans)
            return told == needs and max(needs) <= size(wish)
        return load(wish, point, told) > size(wish)
    values = [point[at] for at in places]
    many = len(values)
    if isinstance(told, int):
        return not kept and 0 <= told < many and not 0 <= values[told] < many
    if not told or len(set(told)) < len(told) or not all(0 <= index < many for index in told):
        return False
    return (all(values[i] == j for i, j in zip(told, told[1:] + told[:1]))
            and (len(told) == many if kept else len(told) < many))


def some_values(wish, point):
    """Values of the forms that may show it, right and wrong ones."""
    many = len(wish[1])
    if wish[0] in ("sum", "table"):
        around = total(wish[1], point) if wish[0] == "sum" else 0
        return [around + step for step in range(-7, 8)]
    places = range(len(point)) if wish[0] == "unlike" else range(-1, many + 1)
    tuples = [lot for length in range(0, min(many, 3) + 1) for lot in itertools.product(places, repeat=length)]
    if wish[0] == "room":
        return list(range(-4, 9)) + list(itertools.product(range(0, 5), repeat=min(many, 3)))
    if wish[0] == "either":
        totals = tuple(total(item[1], point) for item in wish[1])
        return list(range(-1, many + 2)) + [totals, totals[:-1], totals[::-1], totals + (0,), tuple(item + 1 for item in totals)]
    return tuples + (list(range(-1, many + 1)) if wish[0] == "round" else [])


class ShownTest(unittest.TestCase):
    def test_examples(self):
        for wish, point, wanted in (
                (("sum", (2, 1), False, 5), (2, 1), (True, 5)), (("sum", (2, 1), False, 5), (2, 0), (False, 4)),
                (("sum", (2, 1), True, 5), (3, 0), (False, 6)), (("unlike", (0, 1, 2)), (5, 1, 3), (True, (1, 2, 0))),
                (("unlike", (0, 2)), (5, 5, 5), (False, (0, 2))), (("table", (1, 0), ((1, 5), (2, 3))), (3, 2), (True, 1)),
                (("table", (1, 0), ((1, 5), (2, 3))), (3, 1), (False, 0)),
                (("table", (1, 0), ((1, 5), (2, 3))), (4, 2), (False, 2)),
                (("table", (1, 0), ((1, 5), (2, 3))), (0, 2), (False, 1)),
                (("bench", ((0, 2), (1, 3), (2, 1))), (3, 0, 5), (True, (1, 0, 2))),
                (("bench", ((0, 2), (1, 3))), (2, 0), (False, (0, 1))),
                (("room", ((0, 2, 1), (1, 3, 2)), 3), (2, 0), (True, (3, 2))),
                (("room", ((0, 2, 2), (1, 3, 2)), 3), (2, 0), (False, 2)), (("round", (0, 1)), (0, 1), (False, (0,))),
                (("round", (0, 1)), (2, 1), (False, 0))):
            told = shown(wish=wish, point=point)
            self.assertTrue(is_shown(wish=wish, point=point, value=told))
            self.assertTrue(plain_shown(wish, point, told))
            if wish[0] != "round":
                self.assertEqual(told, wanted)
            self.assertIs(is_shown(wish, point, wanted), True, (wish, point))
        wish = ("round", (0, 1, 2))
        self.assertEqual([value for value in ((0, 1, 2), (1, 2, 0), (2, 0, 1), (0, 2, 1), (0, 1), (0, 1, 2, 0), 0, 1)
                          if is_shown(wish, (1, 2, 0), (True, value))], [(0, 1, 2), (1, 2, 0), (2, 0, 1)])
        # A value that is no index, and a ring beside it.
        self.assertEqual([value for value in (0, 1, 2, (0,), (1,), (2,), (0, 1), (1, 0), ())
                          if is_shown(wish, (0, 1, 3), (False, value))], [2, (0,), (1,)])

    def test_against_the_document(self):
        rng = generator(210)
        kept = dict.fromkeys(KINDS, 0)
        for _ in range(1200):
            many = rng.randint(2, 4)
            kind = rng.choice(KINDS)
            wish = made_wish(rng, many, kind)
            point = tuple(rng.randint(-1, 4) for _ in range(many))
            truth = holds(wish, point)
            if kind == "round" and rng.random() < 0.5:
                ordered = list(range(len(wish[1])))
                rng.shuffle(ordered)
                values = dict(zip([wish[1][index] for index in ordered], ordered[1:] + ordered[:1]))
                point = tuple(values.get(at, -1) for at in range(many))
                truth = True
            told = shown(wish, point)
            self.assertIs(told[0], truth)
            self.assertTrue(plain_shown(wish, point, told), (wish, point, told))
            self.assertIs(is_shown(wish, point, told), True)
            kept[kind] += truth
            for value in some_values(wish, point):
                for claimed in (True, False):
                    wanted = isinstance(value, tuple) == self.has_tuple(kind, claimed, value) and plain_shown(
                        wish, point, (claimed, value))
                    self.assertIs(is_shown(wish, point, (claimed, value)), wanted, (wish, point, claimed, value))
                    # There are pairs with one truth, and none with the other one.
                    self.assertTrue(claimed == truth or not wanted)
        self.assertGreater(min(kept.values()), 20)

    def has_tuple(self, kind, claimed, value):
        """Whether a tuple is asked for."""
        if kind in ("sum", "table"):
            return False
        if kind == "either":
            return not claimed
        if kind == "room":
            return claimed
        return isinstance(value, tuple) if kind == "round" else True

    def test_any_values(self):
        cases = (
            (("sum", (1, 1), False, 2), (1, 0)), (("sum", (1, 1), False, 1), (1, 0)), (("unlike", (0, 1)), (0, 1)),
            (("unlike", (0, 1)), (1, 1)), (("table", (0,), ((0,), (1,))), (1, 0)), (("table", (0,), ((0,), (2,))), (1, 0)),
            (("either", (("sum", (1, 0), False, 5), ("sum", (1, 1), False, 1))), (1, 0)),
            (("either", (("sum", (1, 0), False, 5), ("sum", (1, 1), False, 5))), (1, 0)), (("bench", ((0, 1), (1, 1))), (0, 1)),
            (("bench", ((0, 1), (1, 1))), (1, 1)), (("room", ((0, 1, 1), (1, 1, 1)), 1), (0, 1)),
            (("room", ((0, 1, 1), (1, 1, 1)), 1), (1, 1)), (("round", (0, 1)), (1, 0)), (("round", (0, 1)), (1, 1)))
        for wish, point in cases:
            truth, right = shown(wish, point)
            wrong = odd_values() + [
                [truth, right], (truth,), (truth, right, right), (int(truth), right), (None, right), (Hostile(), right),
                (truth, Hostile()), (truth, None), (truth, [right]), (not truth, right), (truth, (right,))]
            for value in odd_values():
                if isinstance(value, (int, tuple)) and not isinstance(value, bool) and plain_fits(wish, value, right):
                    continue
                wrong.append((truth, value))
                wrong.append((not truth, value))
            if isinstance(right, tuple):
                wrong += [(truth, list(right)), (truth, right + (Hostile(),)), (truth, right[:-1] + (Hostile(),)),
                          (truth, tuple(map(float, right))), (truth, (True,) * len(right))]
                wrong += [(truth, tuple(bool(item) for item in right))]
            else:
                wrong += [(truth, float(right)), (truth, bool(right)), (truth, str(right))]
            for value in wrong:
                self.assertIs(is_shown(wish, point, value), False, (wish, point, value))

    def test_limits(self):
        everything = tuple(range(40))
        lots = tuple((at,) * 40 for at in range(400))
        for wish in (("sum", (BIG,) * 40, False, BIG), ("unlike", everything), ("table", everything, lots), ("round", everything),
                     ("either", (("sum", (BIG,) * 40, False, BIG),) * 6), ("bench", tuple((at, BIG) for at in everything)),
                     ("room", tuple((at, BIG, BIG) for at in everything), BIG)):
            for point in (tuple(at * BIG for at in everything), (BIG,) * 40, (0,) * 40, everything[1:] + (0,), (399,) * 40):
                told = shown(wish, point)
                self.assertIs(is_shown(wish, point, told), True)
                self.assertIs(is_shown(wish, point, (not told[0], told[1])), False)


def plain_fits(wish, value, right):
    """Whether a value may be one of several that show it."""
    return repr(value) == repr(right) or wish[0] in ("round", "either", "room")


if __name__ == "__main__":
    unittest.main()
