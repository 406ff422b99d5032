"""Points 58 to 61: cuts of parts of numbers, depths, halves, and what tableaus tell."""

import itertools
import math
import time
import unittest
from fractions import Fraction

from paperbest.cuts import cut_of, deepest_first, depth_of, form_numbers, fraction_parts, half_cut, half_cuts, rounded_sums
from paperbest.duals import relaxed, tableau_of
from paperbest.papers import cut_row, cut_rows
from paperbest.simplex import point_or_sum, to_best
from paperbest.tableau import Tableau
from paperbest.tasks import Task, box_of, rows_of
from tests.test_papers import some_multipliers
from tests.tools import fraction, generator, given, kept_points_of, pair, some_names, some_task, total

BIG = 10 ** 6
ROWS = (("sum", (2, 2), False, 5), ("unlike", (0, 1)), ("sum", (4, -1), False, 1))
TASK = Task((("x", 0, 9), ("y", 0, 9)), ROWS, (3, 2))


def plain_given(task, cuts, numbers):
    """What numbers give, and of each key the row."""
    form, bound = [Fraction(0)] * len(task.unknowns), Fraction(0)
    for key, number in numbers.items():
        row, end = plain_row(task, cuts, key)
        form = [one + fraction(number) * item for one, item in zip(form, row)]
        bound += fraction(number) * end
    return form, bound


def plain_row(task, cuts, key):
    word, at = key
    if word == "row":
        return task.wishes[at][1], task.wishes[at][3]
    if word == "cut":
        return cuts[at][0], cuts[at][2]
    sign = 1 if word == "low" else -1
    return [sign if place == at else 0 for place in range(len(task.unknowns))], sign * box_of(task)[at][word == "high"]


def above(task, cuts, spot, key):
    row, end = plain_row(task, cuts, key)
    return total(row, spot) - end


def some_cuts(rng, task, many=3):
    """Papers and rows of some cuts."""
    papers, rows = (), ()
    for _ in range(many):
        multipliers = some_multipliers(rng, task, rows)
        row = cut_row(task, rows, multipliers)
        if row is not None:
            papers, rows = papers + (multipliers,), rows + (row,)
    return papers, rows


def whole_numbers(rng, task, cuts):
    """Numbers of both signs that give integers: any at sums and cuts, made whole by ends, and integers."""
    keys = [("row", k) for k, _ in rows_of(task)] + [("cut", c) for c in range(len(cuts))]
    numbers = {key: pair(Fraction(rng.randint(-7, 7), rng.choice((1, 2, 3, 6)))) for key in keys if rng.random() < 0.8}
    form, _ = plain_given(task, cuts, numbers)
    for at, value in enumerate(form):
        for word, sign in (("low", 1), ("high", -1)):
            if rng.random() < 0.3:
                numbers[(word, at)] = pair(rng.randint(-2, 2))
        word = rng.choice(("low", "high"))
        number = fraction(numbers.get((word, at), (0, 1))) + (math.ceil(value) - value) * (1 if word == "low" else -1)
        numbers[(word, at)] = pair(number + rng.choice((0, 0, 1, -1)))
    return numbers


def some_spot(rng, task):
    return tuple(Fraction(rng.randint(6 * low, 6 * high), 6) for low, high in box_of(task))


class PartsTest(unittest.TestCase):
    def test_parts(self):
        numbers = {("row", 0): (-7, 2), ("low", 1): (3, 1), ("high", 0): (0, 1), ("cut", 2): (5, 3), ("cut", 1): (-1, 3)}
        before = dict(numbers)
        self.assertEqual(fraction_parts(numbers=numbers), (
            ((("cut", 1), (2, 3)), (("cut", 2), (2, 3)), (("row", 0), (1, 2))),
            {("row", 0): -4, ("low", 1): 3, ("cut", 2): 1, ("cut", 1): -1}))
        self.assertEqual(numbers, before)
        self.assertEqual(fraction_parts({}), ((), {}))
        self.assertEqual(fraction_parts({("low", 0): (-2, 1)}), ((), {("low", 0): -2}))
        self.assertEqual(fraction_parts({("low", 0): (1, 2)}), (((("low", 0), (1, 2)),), {}))

    def test_example(self):
        numbers = {("row", 0): (1, 2), ("high", 0): (-2, 1)}
        self.assertEqual(cut_of(task=TASK, cuts=(), numbers=numbers), (((("row", 0), (1, 2)),), ((1, 1), False, 3)))
        self.assertIsNone(cut_of(TASK, (), {("row", 0): (1, 3)}))
        self.assertIsNone(cut_of(TASK, (), {("row", 0): (2, 1)}))
        self.assertIsNone(cut_of(TASK, (), {("low", 0): (1, 2), ("high", 0): (1, 2)}))
        self.assertIsNone(cut_of(TASK, (), {}))

    def test_what_cuts_say(self):
        rng = generator(580)
        made = beyond = off = 0
        for _ in range(1500):
            task = some_task(rng, rng.randint(1, 3), ("sum", "sum", "unlike"), 3)
            papers, cuts = some_cuts(rng, task)
            numbers = whole_numbers(rng, task, cuts)
            form, bound = plain_given(task, cuts, numbers)
            self.assertTrue(all(item.denominator == 1 for item in form))
            told = cut_of(task, cuts, numbers)
            multipliers, integers = fraction_parts(numbers)
            parts, whole_form = dict(multipliers), plain_given(task, cuts, dict(multipliers))
            for key, number in numbers.items():
                part = fraction(parts.get(key, (0, 1)))
                self.assertTrue(0 <= part < 1)
                self.assertEqual(part + integers.get(key, 0), fraction(number))
            if not any(whole_form[0]):
                self.assertIsNone(told)
                continue
            made += 1
            self.assertEqual(told, (multipliers, (tuple(whole_form[0]), False, math.ceil(whole_form[1]))))
            self.assertEqual(cut_rows(task, papers + (multipliers,)), cuts + (told[1],))
            for point in kept_points_of(task):
                self.assertGreaterEqual(total(told[1][0], point), told[1][2])
            for _ in range(5):
                spot = some_spot(rng, task)
                least = math.ceil(bound) + sum(
                    times * above(task, cuts, spot, key) for key, times in integers.items())
                self.assertEqual(total(told[1][0], spot) >= told[1][2], total(form, spot) >= least)
                beyond += total(form, spot) < least
            for corner in itertools.product(*box_of(task)):
                if bound.denominator > 1 and all(above(task, cuts, corner, key) == 0 for key in numbers):
                    off += 1
                    self.assertLess(total(told[1][0], corner), told[1][2])
        self.assertGreater(made, 600)
        self.assertGreater(beyond, 300)

    def test_depth(self):
        self.assertEqual(depth_of(row=((1, 1), False, 3), spot=((5, 4), (5, 4))), (1, 4))
        self.assertEqual(depth_of(((2, -3), False, -1), ((1, 2), (1, 3))), (-1, 5))
        self.assertEqual(depth_of(((0, BIG), False, BIG), ((0, 1), (1, 1))), (0, 1))
        self.assertEqual(depth_of(((-2, 0), False, 1), ((0, 1), (1, 7))), (1, 2))

    def test_deepest_first(self):
        # Rows that the spot meets, keeps, and breaks, one of them twice.
        spot = ((1, 1), (1, 2))
        rows = (((2, 2), False, 3), ((1, 0), False, 0), ((1, 1), False, 2), ((1, 0), False, 2), ((1, 1), False, 2))
        pairs = [((("low", at), (1, 1)),) for at in range(len(rows))]
        self.assertEqual(deepest_first(list(zip(pairs, rows)), spot), ((pairs[3], rows[3]), (pairs[2], rows[2])))
        self.assertEqual(deepest_first([], spot), ())


class HalvesTest(unittest.TestCase):
    def best_halves(self, task, cuts, spot, some):
        """All cuts of halves at some keys with how much each lacks at the spot."""
        rows = [plain_row(task, cuts, key) for key in some]
        sums = [sum(row[at] for row, _ in rows) for at in range(len(spot))]
        odd = [at for at, times in enumerate(sums) if times % 2]
        found = {}
        for words in itertools.product(("low", "high"), repeat=len(odd)):
            keys = tuple(some) + tuple(zip(words, odd))
            form, bound = plain_given(task, cuts, {key: (1, 2) for key in keys})
            row = (tuple(int(item) for item in form), False, math.ceil(bound))
            lacking = row[2] - total(row[0], spot)
            near = sum(above(task, cuts, spot, key) for key in keys)
            # One cuts the spot off exactly if its bound is no integer and the spot is near enough.
            if any(form):
                self.assertEqual(lacking > 0, bound.denominator > 1 and near < 1)
                found[row] = max(lacking, found.get(row, lacking))
        return found

    def check_pair(self, task, cuts, told, some, found):
        multipliers, row = told
        self.assertEqual(given(task, cuts, box_of(task), multipliers)[0], list(row[0]))
        self.assertEqual(math.ceil(given(task, cuts, box_of(task), multipliers)[1]), row[2])
        self.assertTrue(all(times == (1, 2) for _, times in multipliers))
        self.assertEqual({key for key, _ in multipliers if key[0] in ("row", "cut")}, set(some))
        self.assertGreater(found[row], 0)
        self.assertEqual(found[row], max(found.values()))

    def test_example(self):
        self.assertEqual(half_cut(task=TASK, cuts=(), spot=((5, 4), (5, 4)), some=(("row", 0),)), (
            ((("row", 0), (1, 2)),), ((1, 1), False, 3)))

    def test_edges(self):
        # A spot that the cut just lets through, and one that it does not.
        self.assertIsNone(half_cut(TASK, (), ((3, 2), (3, 2)), (("row", 0),)))
        self.assertIsNotNone(half_cut(TASK, (), ((3, 2), (29, 20)), (("row", 0),)))
        self.assertIsNone(half_cut(TASK, (), ((5, 4), (5, 4)), ()))
        self.assertIsNone(half_cut(TASK, (((2, 2), False, 6),), ((3, 2), (3, 2)), (("cut", 0),)))
        opposite = Task(TASK.unknowns, (("sum", (2, 1), False, 3), ("sum", (-2, -1), False, -3)), (0, 0))
        self.assertIsNone(half_cut(opposite, (), ((1, 1), (1, 1)), (("row", 0), ("row", 1))))

    def test_against_all_ends(self):
        rng = generator(600)
        made = several = 0
        for _ in range(1500):
            task = some_task(rng, rng.randint(2, 4), ("sum", "sum", "sum", "unlike"), 4, 9)
            _, cuts = some_cuts(rng, task, 2)
            told = relaxed(task, cuts, box_of(task))
            if told[0] == "none":
                continue
            spot = tuple(fraction(item) for item in told[1])
            keys = [("row", k) for k, _ in rows_of(task)] + [("cut", c) for c in range(len(cuts))]
            wanted, unsure, lots = set(), set(), {}
            for size in (1, 2, 3):
                for some in itertools.combinations(sorted(keys), size):
                    found = self.best_halves(task, cuts, spot, some)
                    told_pair = half_cut(task, cuts, told[1], some)
                    best = [row for row in found if found[row] > 0 and found[row] == max(found.values())]
                    self.assertEqual(told_pair is not None, bool(best))
                    if best:
                        self.check_pair(task, cuts, told_pair, some, found)
                        made += 1
                    if best and size < 3:
                        lots[some] = found
                        unsure.update(best)
                        wanted.update(best if len(best) == 1 else [])
            pairs = half_cuts(task, cuts, told[1])
            self.check_order(pairs, told[1])
            self.assertLessEqual({row for _, row in pairs}, unsure)
            self.assertLessEqual(wanted, {row for _, row in pairs})
            for one in pairs:
                some = tuple(key for key, _ in one[0] if key[0] in ("row", "cut"))
                self.check_pair(task, cuts, one, some, lots[some])
            several += len(pairs) > 2
        self.assertGreater(made, 150)
        self.assertGreater(several, 2)

    def check_order(self, pairs, spot):
        self.assertIsInstance(pairs, tuple)
        depths = [fraction(depth_of(row, spot)) for _, row in pairs]
        self.assertEqual(depths, sorted(depths, reverse=True))
        self.assertTrue(all(depth > 0 for depth in depths))
        self.assertEqual(len({row for _, row in pairs}), len(pairs))

    def test_limits(self):
        rng = generator(601)
        wishes = tuple(("sum", tuple(rng.randint(-BIG, BIG) for _ in range(40)), False, -BIG) for _ in range(60))
        task = Task(tuple((name, -BIG, BIG) for name in some_names(40)), wishes, (1,) * 40)
        spot = tuple((rng.choice((-2 * BIG + 1, 2 * BIG - 1)), 2) for _ in range(40))
        start = time.time()
        for _, row in half_cuts(task, (), spot):
            self.assertGreater(depth_of(row, spot)[0], 0)
        zero = ((0, 1),) * 40
        flat = Task(task.unknowns, tuple(wish[:3] + (0,) for wish in wishes), (1,) * 40)
        self.assertEqual(half_cuts(flat, (), zero), ())
        self.assertLess(time.time() - start, 60)


class TableausTest(unittest.TestCase):
    def test_form_numbers(self):
        rng = generator(610)
        nears = {}
        for _ in range(400):
            task = some_task(rng, rng.randint(1, 3), ("sum", "sum", "unlike"), 4)
            _, cuts = some_cuts(rng, task, 2)
            inner = tuple(tuple(sorted((rng.randint(low, high), rng.randint(low, high)))) for low, high in box_of(task))
            tableau = tableau_of(task, cuts, rng.choice((inner, box_of(task))))
            for _ in range(rng.randint(0, 4)):
                choices = [(place, column) for place in tableau.basis for column in tableau.row_at(place)]
                if choices:
                    tableau.exchange(*rng.choice(choices))
            form = tuple(rng.randint(-3, 3) for _ in task.unknowns)
            numbers = form_numbers(task=task, cuts=cuts, tableau=tableau, form=form)
            self.assertEqual(plain_given(task, cuts, numbers)[0], list(form))
            self.assertTrue(all(number[0] != 0 for number in numbers.values()))
            for word, at in numbers:
                if word in ("low", "high"):
                    self.assertIn(at, tableau.columns)
                    value = fraction(tableau.value(at))
                    gap, far = value - box_of(task)[at][0], box_of(task)[at][1] - value
                    self.assertEqual(word, "high" if far < gap else "low")
                    nears[(word, (gap > far) - (gap < far))] = True
                else:
                    place = len(task.unknowns) + (
                        [k for k, _ in rows_of(task)].index(at) if word == "row" else len(rows_of(task)) + at)
                    self.assertIn(place, tableau.columns)
        self.assertEqual(set(nears), {("low", -1), ("low", 0), ("high", 1)})
        self.assertEqual(form_numbers(TASK, (), tableau_of(TASK, (), ((0, 9), (0, 9))), (0, 0)), {})

    def test_rounded_sums(self):
        rng = generator(611)
        made = 0
        for _ in range(1500):
            task = some_task(rng, rng.randint(2, 4), ("sum", "sum", "sum", "unlike"), 4, 9)
            _, cuts = some_cuts(rng, task, 2)
            tableau = tableau_of(task, cuts, box_of(task))
            if point_or_sum(tableau)[0] != "point":
                continue
            to_best(tableau, task.goal)
            spot = tableau.point()
            pairs = rounded_sums(task=task, cuts=cuts, tableau=tableau)
            HalvesTest.check_order(self, pairs, spot)
            forms = [tuple(int(place == at) for place in range(len(spot))) for at, value in enumerate(spot) if value[1] > 1]
            if total(task.goal, [fraction(value) for value in spot]).denominator > 1 if any(task.goal) else False:
                forms.append(task.goal)
            wanted = {}
            at_ends = all(tableau.value(column)[0] in [end * tableau.value(column)[1] for end in box_of(task)[column]]
                          for column in tableau.columns if column < tableau.many)
            for form in forms:
                numbers = form_numbers(task, cuts, tableau, form)
                for sign in (1, -1):
                    told = cut_of(task, cuts, {key: (sign * top, bottom) for key, (top, bottom) in numbers.items()})
                    if at_ends:
                        self.assertIsNotNone(told)
                    if told is not None and depth_of(told[1], spot)[0] > 0:
                        wanted.setdefault(told[1], []).append(told[0])
            self.assertEqual({row for _, row in pairs}, set(wanted))
            self.assertTrue(all(multipliers in wanted[row] for multipliers, row in pairs))
            if at_ends:
                self.assertEqual(bool(pairs), bool(forms))
            for multipliers, row in pairs:
                made += 1
                self.assertEqual(cut_row(task, cuts, multipliers), row)
        self.assertGreater(made, 200)

    def test_narrower_boxes(self):
        # Columns at ends that are not the task's: some of the cuts let the spot through.
        rng = generator(613)
        through = made = 0
        for _ in range(1500):
            task = some_task(rng, rng.randint(2, 4), ("sum", "sum", "sum", "unlike"), 4, 9)
            inner = tuple(tuple(sorted((rng.randint(low, high), rng.randint(low, high)))) for low, high in box_of(task))
            tableau = tableau_of(task, (), inner)
            if point_or_sum(tableau)[0] != "point":
                continue
            spot, wanted = tableau.point(), set()
            forms = [tuple(int(place == at) for place in range(len(spot))) for at, value in enumerate(spot) if value[1] > 1]
            if total(task.goal, [fraction(value) for value in spot]) % 1:
                forms.append(task.goal)
            for form in forms:
                numbers = form_numbers(task, (), tableau, form)
                for sign in (1, -1):
                    told = cut_of(task, (), {key: (sign * top, bottom) for key, (top, bottom) in numbers.items()})
                    if told is not None and depth_of(told[1], spot)[0] > 0:
                        wanted.add(told[1])
                    through += told is not None and depth_of(told[1], spot)[0] <= 0
            pairs = rounded_sums(task, (), tableau)
            HalvesTest.check_order(self, pairs, spot)
            self.assertEqual({row for _, row in pairs}, wanted)
            made += len(pairs)
        self.assertGreater(through, 10)
        self.assertGreater(made, 50)

    def test_nothing_to_round(self):
        tableau = Tableau((((2, 2), False, 5), ((4, -1), False, 1)), ((0, 9), (0, 9)))
        self.assertEqual(rounded_sums(TASK, (), tableau), ())

    def test_limits(self):
        rng = generator(612)
        wishes = tuple(("sum", tuple(rng.randint(1, BIG) if rng.random() < 0.2 else 0 for _ in range(39)) + (1,),
                        False, rng.randint(1, BIG)) for _ in range(20))
        task = Task(tuple((name, 0, BIG) for name in some_names(40)), wishes, tuple(rng.randint(1, BIG) for _ in range(40)))
        tableau = tableau_of(task, (), box_of(task))
        point_or_sum(tableau)
        to_best(tableau, task.goal)
        pairs = rounded_sums(task, (), tableau)
        self.assertGreater(len(pairs), 5)
        for multipliers, row in pairs:
            form, bound = given(task, (), box_of(task), multipliers)
            self.assertEqual((tuple(form), math.ceil(bound)), (row[0], row[2]))


if __name__ == "__main__":
    unittest.main()
