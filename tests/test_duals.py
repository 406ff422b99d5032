"""Points 38 (with_cuts), 42 and 43: answers for fractions, and which are best."""

import itertools
import unittest
from fractions import Fraction

from paperbest.duals import best_face, gap_of, in_turn, is_relaxed, relaxed, with_cuts
from paperbest.tasks import Task, box_of, with_goal
from tests.test_simplex import corners
from tests.test_sums import plain_sum
from tests.tools import KINDS, fraction, generator, made_wish, odd_values, pair, some_names, total

BIG = 10 ** 6


def made_case(rng, most=3):
    """Some task with sums among its wishes, cuts, and a box within its ranges."""
    many = rng.randint(1, most)
    unknowns, box = [], []
    for name in some_names(many):
        low = rng.randint(-3, 1)
        high = low + rng.randint(0, 5)
        unknowns.append((name, low, high))
        box.append((rng.randint(low, high),) * 2)
        box[-1] = tuple(sorted((box[-1][0], rng.randint(low, high))))
    kinds = ("sum", "sum", "sum") + (KINDS if many > 1 else ())
    wishes = tuple(made_wish(rng, many, rng.choice(kinds)) for _ in range(rng.randint(0, 4)))
    cuts = tuple(made_wish(rng, many, "sum")[1:2] + (False, rng.randint(-5, 5)) for _ in range(rng.randint(0, 2)))
    goal = tuple(rng.randint(-3, 3) for _ in range(many))
    return Task(tuple(unknowns), wishes, goal), cuts, tuple(box)


def corners_of(task, cuts, box):
    """The corner points of the fractions that suit."""
    rows = [wish[1:] for wish in task.wishes if wish[0] == "sum"] + list(cuts)
    return corners([(row, bound, bound if equal else None) for row, equal, bound in rows], box)


def is_right(task, cuts, box, answer):
    """Whether an answer is one, by sums of the test's own."""
    multipliers = answer[-1]
    if list(multipliers) != sorted(multipliers) or len({key for key, _ in multipliers}) < len(multipliers):
        return False
    for (word, at), times in multipliers:
        equal = word == "row" and task.wishes[at][2]
        if times[0] == 0 or (times[0] < 0 and not equal):
            return False
    form, bound = plain_sum(multipliers, task, cuts, box)
    if answer[0] == "none":
        return len(answer) == 2 and set(form) == {(0, 1)} and bound[0] > 0
    _, point, worth, _ = answer
    exact = [fraction(value) for value in point]
    rows = [wish[1:] for wish in task.wishes if wish[0] == "sum"] + list(cuts)
    suits = all(low <= value <= high for value, (low, high) in zip(exact, box))
    suits = suits and all(
        total(row, exact) == least if equal else total(row, exact) >= least for row, equal, least in rows)
    return (len(answer) == 4 and suits and fraction(worth) == total(task.goal, exact)
            and form == tuple((times, 1) for times in task.goal) and bound == worth)


class WithCutsTest(unittest.TestCase):
    def test_keys(self):
        wishes = (("unlike", (0, 1)), ("sum", (1, 0), False, 0), ("unlike", (0, 1)), ("sum", (0, 1), True, 0))
        task = Task((("x", 0, 9), ("y", 0, 9)), wishes, (1, 1))
        multipliers = ((("high", 1), (1, 2)), (("low", 0), (1, 3)), (("row", 0), (2, 1)), (("row", 1), (-1, 1)),
                       (("row", 2), (3, 1)), (("row", 3), (4, 1)))
        self.assertEqual(with_cuts(task=task, multipliers=multipliers), (
            (("cut", 0), (3, 1)), (("cut", 1), (4, 1)), (("high", 1), (1, 2)), (("low", 0), (1, 3)),
            (("row", 1), (2, 1)), (("row", 3), (-1, 1))))
        self.assertEqual(with_cuts(task, ()), ())
        none = Task((("x", 0, 9),), (), (1,))
        self.assertEqual(with_cuts(none, ((("row", 0), (1, 1)),)), ((("cut", 0), (1, 1)),))


class RelaxedTest(unittest.TestCase):
    def test_against_corners(self):
        rng = generator(42)
        words = []
        for _ in range(500):
            task, cuts, box = made_case(rng)
            answer = relaxed(task=task, cuts=cuts, box=box)
            words.append(answer[0])
            self.assertTrue(is_right(task, cuts, box, answer), (task.wishes, cuts, box, answer))
            self.assertIs(is_relaxed(task=task, cuts=cuts, box=box, value=answer), True)
            found = corners_of(task, cuts, box)
            if answer[0] == "none":
                self.assertEqual(found, set())
            else:
                self.assertEqual(fraction(answer[2]), min(total(task.goal, corner) for corner in found))
        self.assertGreater(min(words.count("none"), words.count("best")), 80)

    def test_limits(self):
        rng = generator(43)
        for spread, most, rows in ((BIG, BIG, 12), (5, 9, 60)):
            point = [rng.randint(-most, most) for _ in range(40)]
            wishes = []
            for _ in range(rows):
                row = tuple(rng.randint(-spread, spread) for _ in range(40))
                wishes.append(("sum", row, False, max(-BIG, min(BIG, total(row, point) - rng.randint(0, 9)))))
            unknowns = tuple((name, -most, most) for name in some_names(40))
            task = Task(unknowns, tuple(wishes), tuple(rng.randint(-spread, spread) for _ in range(40)))
            answer = relaxed(task, (), box_of(task))
            self.assertTrue(is_right(task, (), box_of(task), answer))
            self.assertTrue(is_relaxed(task, (), box_of(task), answer))

    def test_many_places_meet(self):
        rows = tuple(("sum", signs, False, 0) for signs in itertools.product((-1, 1), repeat=5))
        task = Task(tuple((name, -9, 9) for name in some_names(5)), rows, (1, -2, 3, -4, 5))
        answer = relaxed(task, (), ((-9, 9),) * 5)
        self.assertEqual(answer[:3], ("best", ((0, 1),) * 5, (0, 1)))
        self.assertTrue(is_right(task, (), box_of(task), answer))
        self.assertEqual(relaxed(task, (), ((1, 9),) + ((-9, 9),) * 4)[0], "none")


class IsRelaxedTest(unittest.TestCase):
    def setUp(self):
        wishes = (("sum", (2, 2), False, 5), ("unlike", (0, 1)), ("sum", (1, -1), True, 0))
        self.task = Task((("x", 0, 9), ("y", 0, 9)), wishes, (3, 1))
        self.box = ((0, 9), (0, 9))
        self.cuts = (((1, 0), False, 1),)
        self.best = ("best", ((5, 4), (5, 4)), (5, 1), ((("row", 0), (1, 1)), (("row", 2), (1, 1))))

    def told(self, value, box=None):
        return is_relaxed(self.task, self.cuts, self.box if box is None else box, value)

    def test_any_values(self):
        self.assertIs(self.told(self.best), True)
        for value in odd_values():
            self.assertIs(self.told(value), False)
            for at in range(4):
                self.assertIs(self.told(self.best[:at] + (value,) + self.best[at + 1:]), False, (at, value))
            self.assertIs(self.told(("none", value)), False)
            self.assertIs(self.told(("best", (value, value), (5, 1), self.best[3])), False)

    def test_wrong_parts(self):
        word, point, worth, multipliers = self.best
        wrong = (
            (word, point, worth), (word, point, worth, multipliers, 0), ("none", point, worth, multipliers),
            list(self.best), (word, list(point), worth, multipliers), (word, point[:1], worth, multipliers),
            (word, point + ((0, 1),), worth, multipliers), (word, ((10, 8), (5, 4)), worth, multipliers),
            (word, ((3, 2), (1, 1)), worth, multipliers), (word, point, (6, 1), multipliers),
            (word, point, worth, ((("row", 0), (1, 1)), (("row", 2), (2, 1)))), (word, point, 5, multipliers), (word, point, worth, multipliers[::-1]), (word, point, worth, ()),
            (word, point, worth, ((("row", 0), (3, 2)),)), ("none", multipliers), ("none", ()), ("best",), ("none",))
        for value in wrong:
            self.assertIs(self.told(value), False, value)
        # Points that suit, but are not what the multipliers give.
        self.assertIs(self.told((word, ((3, 1), (3, 1)), (12, 1), multipliers)), False)

    def test_points_that_do_not_suit(self):
        """Points with the worth that the multipliers give, but beyond an end or off a row."""
        task = Task((("x", 0, 9), ("y", 0, 9)), (("sum", (1, 1), False, 4),), (1, 1))
        multipliers = ((("row", 0), (1, 1)),)
        cases = (((), (0, 9), (0, 9)), (((1, 0), False, 1), (0, 9), (0, 9)), (((0, 1), False, 1), (0, 9), (0, 9)))
        for cut, pair_x, pair_y in cases:
            for x in range(-1, 6):
                value = ("best", ((x, 1), (4 - x, 1)), (4, 1), multipliers)
                suits = pair_x[0] <= x <= pair_x[1] and pair_y[0] <= 4 - x <= pair_y[1]
                suits = suits and (not cut or total(cut[0], (x, 4 - x)) >= cut[2])
                self.assertIs(is_relaxed(task, (cut,) if cut else (), (pair_x, pair_y), value), suits)
        for box in (((1, 9), (0, 9)), ((0, 3), (0, 9)), ((0, 9), (1, 9)), ((0, 9), (0, 3))):
            for x in (0, 2, 4):
                value = ("best", ((x, 1), (4 - x, 1)), (4, 1), multipliers)
                suits = box[0][0] <= x <= box[0][1] and box[1][0] <= 4 - x <= box[1][1]
                self.assertIs(is_relaxed(task, (), box, value), suits)
        equal = Task(task.unknowns, task.wishes + (("sum", (1, -1), True, 0), ("sum", (0, -1), False, -3)), (1, 1))
        for x in range(5):
            value = ("best", ((x, 1), (4 - x, 1)), (4, 1), multipliers)
            self.assertIs(is_relaxed(equal, (), ((0, 9), (0, 9)), value), x == 2)

    def test_changed_answers(self):
        rng = generator(47)
        seen = []
        for _ in range(600):
            task, cuts, box = made_case(rng)
            answer = relaxed(task, cuts, box)
            if answer[0] == "none":
                continue
            point = list(answer[1])
            at = rng.randrange(len(point))
            point[at] = pair(fraction(point[at]) + Fraction(rng.randint(-2, 2), rng.randint(1, 2)))
            if len(point) > 1:
                # With the worth of before, if the goal allows.
                other = (at + 1) % len(point)
                if task.goal[other]:
                    change = fraction(answer[1][at]) - fraction(point[at])
                    point[other] = pair(fraction(point[other]) + change * task.goal[at] / task.goal[other])
            value = answer[:1] + (tuple(point),) + answer[2:]
            seen.append(is_right(task, cuts, box, value))
            self.assertIs(is_relaxed(task, cuts, box, value), seen[-1])
        self.assertGreater(min(seen.count(True), seen.count(False)), 30)

    def test_none(self):
        box = ((0, 1), (0, 1))
        none = ("none", ((("high", 0), (2, 1)), (("high", 1), (2, 1)), (("row", 0), (1, 1))))
        self.assertIs(self.told(none, box), True)
        self.assertIs(self.told(none), False)
        self.assertIs(self.told(none + (0,), box), False)
        self.assertIs(self.told(("best",) + none[1:], box), False)
        self.assertIs(self.told(("none", none[1][:2]), box), False)
        # What gives just 0 is no such sum: the two sides of an end.
        self.assertIs(self.told(("none", ((("high", 0), (1, 1)), (("low", 0), (1, 1)))), ((1, 1), (0, 1))), False)


class FaceTest(unittest.TestCase):
    def test_gap(self):
        wishes = (("sum", (2, 2), False, 5), ("unlike", (0, 1)), ("sum", (1, -1), True, 0))
        task, cuts, box = Task((("x", 0, 9), ("y", 0, 9)), wishes, (3, 1)), (((1, 0), False, 1),), ((1, 8), (2, 7))
        point = ((5, 2), (4, 1))
        for key, gap in ((("row", 0), (8, 1)), (("row", 2), (-3, 2)), (("cut", 0), (3, 2)), (("low", 0), (3, 2)),
                         (("high", 0), (11, 2)), (("low", 1), (2, 1)), (("high", 1), (3, 1))):
            self.assertEqual(gap_of(task, cuts, box, point, ((key, (1, 1)),)), gap, key)
        multipliers = ((("high", 0), (1, 2)), (("row", 2), (-2, 3)))
        self.assertEqual(gap_of(task=task, cuts=cuts, box=box, point=point, multipliers=multipliers), (15, 4))
        self.assertEqual(gap_of(task, cuts, box, point, ()), (0, 1))

    def test_gap_is_what_the_worth_is_above(self):
        rng = generator(44)
        for _ in range(200):
            task, cuts, box = made_case(rng)
            answer = relaxed(task, cuts, box)
            if answer[0] == "best":
                point = tuple(pair(Fraction(rng.randint(-9, 9), rng.randint(1, 4))) for _ in box)
                above = total(task.goal, [fraction(value) for value in point]) - fraction(answer[2])
                self.assertEqual(gap_of(task, cuts, box, point, answer[3]), pair(above))

    def test_face(self):
        either = ("either", (("sum", (1, 0, 0), False, 2), ("sum", (0, 1, 0), False, 2)))
        wishes = (("sum", (1, 1, 1), False, 2), either, ("sum", (1, 0, 2), False, 3), ("sum", (0, 1, 2), True, 3))
        task = Task((("x", 0, 9), ("y", 0, 9), ("z", 0, 9)), wishes, (1, 2, 3))
        cuts = (((1, 2, 3), False, 4), ((3, 2, 1), False, 0))
        multipliers = ((("cut", 1), (1, 2)), (("high", 0), (1, 1)), (("high", 2), (1, 1)), (("low", 2), (1, 1)),
                       (("row", 2), (1, 1)))
        face, box = best_face(task=task, cuts=cuts, box=((1, 8), (2, 7), (3, 6)), multipliers=multipliers)
        self.assertIsInstance(face, Task)
        self.assertEqual(box, ((8, 8), (2, 7), (3, 3)))
        self.assertEqual((face.unknowns, face.goal), (task.unknowns, task.goal))
        self.assertEqual(face.wishes, (
            wishes[0], either, ("sum", (1, 0, 2), True, 3), wishes[3], ("sum", (1, 2, 3), False, 4),
            ("sum", (3, 2, 1), True, 0)))

    def test_just_the_best_ones_suit(self):
        rng = generator(45)
        best = 0
        for _ in range(300):
            task, cuts, box = made_case(rng)
            answer = relaxed(task, cuts, box)
            if answer[0] == "none":
                continue
            best += 1
            face, face_box = best_face(task, cuts, box, answer[3])
            wanted = {corner for corner in corners_of(task, cuts, box)
                      if total(task.goal, corner) == fraction(answer[2])}
            self.assertEqual(corners_of(face, (), face_box), wanted)
        self.assertGreater(best, 100)

    def test_in_turn(self):
        rng = generator(46)
        lengths = []
        for _ in range(200):
            task, cuts, box = made_case(rng)
            goals = tuple(tuple(rng.randint(-2, 2) for _ in box) for _ in range(rng.randint(0, 3)))
            answers = in_turn(task=task, cuts=cuts, box=box, goals=goals)
            self.assertIsInstance(answers, tuple)
            lengths.append(len(answers))
            found = corners_of(task, cuts, box)
            if goals and not found:
                self.assertEqual([answer[0] for answer in answers], ["none"])
            else:
                self.assertEqual(len(answers), len(goals))
            now, now_cuts, now_box = task, cuts, box
            for goal, answer in zip(goals, answers):
                now = with_goal(now, goal)
                self.assertTrue(is_right(now, now_cuts, now_box, answer))
                if answer[0] == "none":
                    break
                found = {corner for corner in found if total(goal, corner) == min(total(goal, at) for at in found)}
                self.assertEqual(fraction(answer[2]), total(goal, min(found)))
                now, now_box = best_face(now, now_cuts, now_box, answer[3])
                now_cuts = ()
        self.assertEqual(set(lengths), {0, 1, 2, 3})


if __name__ == "__main__":
    unittest.main()
