"""Points 62 and 63: rounds of cuts, least spots, and answers by cuts alone."""

import time
import unittest

from paperbest.checker import is_answer
from paperbest.cuts import cut_of, depth_of
from paperbest.duals import in_turn, relaxed, suits
from paperbest.errors import Refused
from paperbest.numbers import ceiling_of, weighed
from paperbest.papers import Best, Nothing, Paper, cut_rows
from paperbest.rounds import by_cuts, least_spot, most_cuts, next_cut, rounds
from paperbest.tasks import Task, box_of, with_wishes
from tests.test_cuts import above, plain_given, some_cuts
from tests.tools import (
    KINDS, answer_is_right, fraction, generator, given, holds_all, kept_points_of, made_wish, some_names, some_task,
    total)

BIG = 10 ** 6
ROWS = (("sum", (2, 2), False, 5), ("unlike", (0, 1)), ("sum", (4, -1), False, 1))
TASK = Task((("x", 0, 9), ("y", 0, 9)), ROWS, (3, 2))
SUMS = Task(TASK.unknowns, ROWS[:1] + ROWS[2:], (3, 2))
SPLIT = Task((("x", 0, 9), ("y", 0, 9)), (("sum", (2, -2), True, 1),), (1, 1))


def forms_of(task):
    many = len(task.goal)
    return (task.goal,) + tuple(tuple(int(place == at) for place in range(many)) for at in range(many))


class SpotsTest(unittest.TestCase):
    def check_numbers(self, task, cuts, spot, stages, sums):
        used = set()
        for form, numbers in zip(stages, sums):
            told, bound = plain_given(task, cuts, numbers)
            self.assertEqual(told, list(form))
            self.assertEqual(bound, total(form, [fraction(value) for value in spot]))
            for key, number in numbers.items():
                equal = key[0] == "row" and task.wishes[key[1]][2]
                self.assertTrue(number[0] >= 0 or equal or key in used, (task.wishes, key, number))
                # What is shown so is met at the spot.
                if number[0] != 0:
                    self.assertEqual(above(task, cuts, [fraction(value) for value in spot], key), 0)
            used |= {key for key, number in numbers.items() if number[0] != 0}

    def test_least_spots(self):
        rng = generator(630)
        none = cut = whole = 0
        for _ in range(600):
            task = some_task(rng, rng.randint(1, 4), ("sum", "sum", "sum", "unlike"), 4, 6)
            _, cuts = some_cuts(rng, task, 2)
            stages = forms_of(task)
            told = least_spot(task=task, cuts=cuts)
            following = next_cut(task=task, cuts=cuts)
            answers = in_turn(task, cuts, box_of(task), stages)
            if told[0] == "none":
                none += 1
                self.assertEqual(answers[0][0], "none")
                self.assertEqual((following[0], len(told), len(following)), ("none", 2, 2))
                for multipliers in (told[1], following[1]):
                    form, bound = given(task, cuts, box_of(task), multipliers)
                    self.assertTrue(not any(form) and bound > 0)
                continue
            word, spot, sums = told
            self.assertEqual((word, len(sums)), ("spot", len(stages)))
            self.assertTrue(suits(task, cuts, box_of(task), spot))
            self.assertEqual([weighed(form, spot) for form in stages], [answer[2] for answer in answers])
            self.check_numbers(task, cuts, spot, stages, sums)
            values = [weighed(form, spot) for form in stages]
            first = [at for at, value in enumerate(values) if value[1] > 1]
            if not first:
                whole += 1
                self.assertEqual(following[:2], ("whole", tuple(value[0] for value in spot)))
                form, bound = given(task, cuts, box_of(task), following[2])
                self.assertEqual((form, bound), (list(task.goal), values[0][0]))
                continue
            cut += 1
            word, multipliers, row, key = following
            self.assertEqual(word, "cut")
            self.assertEqual(key, tuple(value[0] for value in values[:first[0]]) + (ceiling_of(values[first[0]]),)
                             + tuple(low for low, _ in box_of(task)[first[0]:]))
            self.assertTrue(all(isinstance(item, int) for item in key))
            form, _ = given(task, cuts, box_of(task), multipliers)
            self.assertEqual(tuple(form), row[0])
            self.assertGreater(depth_of(row, spot)[0], 0)
            self.assertIn((multipliers, row), [cut_of(task, cuts, numbers) for numbers in sums[first[0]:first[0] + 1]])
            # The spots that keep the cut and are the same before have the rounded value.
            after = in_turn(task, cuts + (row,), box_of(task), stages)
            if len(after) == len(stages):
                self.assertGreaterEqual([fraction(answer[2]) for answer in after], list(key))
        self.assertTrue(none > 30 and cut > 40 and whole > 100, (none, cut, whole))

    def test_example(self):
        self.assertEqual(next_cut(TASK, ())[2:], (((1, 0), False, 1), (6, 0, 0)))
        self.assertEqual(least_spot(TASK, ())[1], ((7, 10), (9, 5)))
        self.assertEqual(least_spot(SPLIT, ())[1], ((1, 2), (0, 1)))

    def test_fixed_unknowns(self):
        task = Task((("x", 3, 3), ("y", 0, 4)), (("sum", (-2, 2), False, 1),), (-1, 1))
        word, spot, sums = least_spot(task, ())
        self.assertEqual((word, spot), ("spot", ((3, 1), (7, 2))))
        self.check_numbers(task, (), spot, forms_of(task), sums)


class ByCutsTest(unittest.TestCase):
    def test_most_cuts(self):
        self.assertEqual(most_cuts(task=TASK), 4600)
        self.assertEqual(most_cuts(Task((("x", 2, 2),), (), (9,))), 1)
        self.assertEqual(most_cuts(Task((("x", -2, 2), ("y", 0, 1)), (), (-3, 1))), 14 * 10)
        self.assertEqual(most_cuts(Task((("x", 0, 5),), (), (0,))), 6)

    def check(self, task, answer):
        self.assertTrue(answer_is_right(task, answer))
        self.assertTrue(is_answer(task, answer))
        self.assertIn(answer.paper.tree[0], ("none", "worth"))
        kept = kept_points_of(task)
        self.assertEqual(isinstance(answer, Best), bool(kept))
        if kept:
            self.assertEqual(answer.worth, min(total(task.goal, point) for point in kept))

    def test_made_tasks(self):
        rng = generator(631)
        long = 0
        for _ in range(400):
            task = some_task(rng, rng.randint(1, 3), ("sum",), 4, 7)
            if len(task.goal) == 3:
                task = with_wishes(task, tuple(made_wish(rng, 3, "sum", 7) for _ in range(2)))
            answer = by_cuts(task=task)
            self.check(task, answer)
            many = len(answer.paper.cuts)
            self.assertLessEqual(many, most_cuts(task))
            self.check(task, by_cuts(task, most=many))
            if many:
                long += many > 2
                self.assertIsNone(by_cuts(task, most=many - 1))
                self.assertIsNone(by_cuts(task, most=0))
            if many < 6:
                self.check_keys(task, answer)
        self.assertGreater(long, 10)

    def check_keys(self, task, answer):
        """Cuts that are told one after another have keys that rise, until there is an answer."""
        rows, keys = (), []
        for _ in range(40):
            told = next_cut(task, rows)
            if told[0] != "cut":
                break
            rows, keys = rows + (told[2],), keys + [told[3]]
        self.assertEqual(keys, sorted(set(keys)))
        if told[0] == "whole":
            self.assertEqual(total(task.goal, told[1]), answer.worth)

    def test_several_cuts_at_one_worth(self):
        # All spots are worth 0, so the keys rise by the unknowns.
        task = Task((("x", 0, 6), ("y", 0, 6), ("z", 0, 6)), (("sum", (6, 10, 15), True, 53), ("sum", (2, -3, 0), False, 1)), (0, 0, 0))
        answer = by_cuts(task)
        self.check(task, answer)
        self.check(SPLIT, by_cuts(SPLIT))
        self.assertIsInstance(by_cuts(SPLIT), Nothing)
        self.assertIsInstance(by_cuts(Task(SPLIT.unknowns, (("sum", (1, 1), False, 19),), (1, 1)), most=0), Nothing)
        self.assertEqual(by_cuts(SUMS).point, (1, 2))
        self.assertEqual(by_cuts(Task((("x", -3, 3),), (), (0,)), most=0).point, (-3,))

    def test_refusals(self):
        for kind in KINDS[1:]:
            rng = generator(632)
            task = some_task(rng, 3, (kind,), 3)
            while not task.wishes:
                task = some_task(rng, 3, (kind,), 3)
            for most in (None, 0):
                with self.assertRaises(Refused) as caught:
                    by_cuts(task, most=most)
                self.assertEqual(caught.exception.word, "sums")


class RoundsTest(unittest.TestCase):
    def check(self, task, most):
        cuts, worths, answer = rounds(task=task, most=most)
        box = box_of(task)
        rows = cut_rows(task, cuts)
        self.assertIsInstance(worths, tuple)
        self.assertLessEqual(len(worths), most + 1)
        self.assertLessEqual(len(cuts), most * len(box))
        self.assertEqual([fraction(value) for value in worths], sorted(fraction(value) for value in worths))
        first, last = relaxed(task, (), box), relaxed(task, rows, box)
        if first[0] == "best":
            self.assertEqual(worths[0], first[2])
        if isinstance(answer, Nothing):
            self.assertEqual(last[0], "none")
            # Behind all spots but the one that there is not, cuts were added.
            self.assertGreaterEqual(len(cuts), len(worths))
        else:
            self.assertEqual(worths[-1], last[2])
            self.assertGreaterEqual(len(cuts), len(worths) - 1)
        if answer is not None:
            self.assertEqual(answer.paper.cuts, cuts)
            self.assertIn(answer.paper.tree[0], ("none", "worth"))
            self.assertTrue(answer_is_right(task, answer) and is_answer(task, answer))
            if isinstance(answer, Best):
                self.assertEqual((answer.worth, 1), worths[-1])
        elif all(wish[0] == "sum" for wish in task.wishes):
            self.assertEqual(len(worths), most + 1)
        return worths, answer

    def test_made_tasks(self):
        rng = generator(620)
        seen = {}
        for _ in range(500):
            kinds = rng.choice((("sum",), ("sum", "sum", "unlike"), KINDS))
            task = some_task(rng, rng.randint(1, 4), kinds, 4, 5)
            kept = kept_points_of(task)
            for most in (0, 1, 2, 5):
                worths, answer = self.check(task, most)
                seen[answer.__class__.__name__, most] = seen.get((answer.__class__.__name__, most), 0) + 1
                for point in kept:
                    self.assertTrue(all(fraction(value) <= total(task.goal, point) for value in worths))
        self.assertGreater(seen["Best", 2], seen["Best", 0])
        self.assertGreater(seen["Nothing", 2], seen["Nothing", 0])
        self.assertGreater(seen["NoneType", 0], seen["NoneType", 5])

    def test_edges(self):
        self.assertEqual(rounds(SPLIT, most=0)[0], ())
        self.assertIsInstance(rounds(SPLIT, most=1)[2], Nothing)
        self.assertEqual(rounds(Task((("x", 2, 5),), (), (3,)), most=0)[2].point, (2,))
        # A whole spot that only another kind of wish breaks, with no cut to add.
        task = Task((("x", 0, 3), ("y", 0, 3)), (("unlike", (0, 1)),), (1, 1))
        cuts, worths, answer = rounds(task, most=9)
        self.assertEqual((cuts, worths, answer), ((), ((0, 1),), None))
        self.assertEqual(rounds(SUMS, most=20)[2].worth, 7)

    def test_many_rounds(self):
        rng = generator(621)
        answered = 0
        for _ in range(60):
            task = some_task(rng, rng.randint(2, 4), ("sum",), 4, 5)
            answered += self.check(task, 60)[1] is not None
        self.assertGreater(answered, 50)

    def test_limits(self):
        rng = generator(622)
        wishes = tuple(("sum", tuple(rng.randint(1, BIG) if rng.random() < 0.1 else 0 for _ in range(39)) + (1,),
                        False, rng.randint(1, BIG)) for _ in range(20))
        task = Task(tuple((name, 0, BIG) for name in some_names(40)), wishes, tuple(rng.randint(1, BIG) for _ in range(40)))
        start = time.time()
        cuts, worths, answer = rounds(task, most=2)
        self.assertTrue(all(fraction(one) <= fraction(other) for one, other in zip(worths, worths[1:])))
        self.assertEqual(len(cut_rows(task, cuts)), len(cuts))
        self.assertTrue(answer is None or is_answer(task, answer))
        self.assertLess(time.time() - start, 60)
        wide = Task((("x", -BIG, BIG), ("y", -BIG, BIG)), (("sum", (BIG, BIG - 1), True, 1), ("sum", (1, 1), False, 0)), (1, 0))
        answer = by_cuts(wide)
        self.assertTrue(is_answer(wide, answer) and holds_all(wide, answer.point))
        self.assertIsInstance(answer.paper, Paper)


if __name__ == "__main__":
    unittest.main()
