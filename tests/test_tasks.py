"""Points 4, 7, 9, 10 and 11: tasks."""

import itertools
import unittest

from paperbest import tasks
from paperbest.errors import InvalidNumber, InvalidTask, Refused
from paperbest.tasks import Task
from tests.tools import (
    KINDS, Hostile, changed, generator, holds_all, made_wish, odd_values, points_of, some_names, total)

BIG = 10 ** 6
UNKNOWNS = (("x", 0, 9), ("y", -3, 7))
WISHES = (("sum", (2, 2), False, 5), ("unlike", (0, 1)))
GOAL = (4, 6)
WORDS = ("and", "bench", "if", "least", "or", "room", "round", "table", "then", "unlike")


def made_task(rng, many=3, kinds=KINDS, most=4):
    unknowns = []
    for name in some_names(many):
        low = rng.randint(-2, 1)
        unknowns.append((name, low, low + rng.randint(0, 4)))
    wishes = tuple(made_wish(rng, many, rng.choice(kinds)) for _ in range(rng.randint(0, most)))
    return Task(tuple(unknowns), wishes, tuple(rng.randint(-3, 3) for _ in range(many)))


def box_of(task):
    return tuple((low, high) for _, low, high in task.unknowns)


def kept_of(task):
    """The points that keep a task, with their worths."""
    return {point: total(task.goal, point) for point in points_of(box_of(task)) if holds_all(task, point)}


class TaskTest(unittest.TestCase):
    def refused(self, unknowns, wishes, goal, word, at):
        with self.assertRaises(InvalidTask) as caught:
            Task(unknowns, wishes, goal)
        self.assertEqual((caught.exception.word, caught.exception.at), (word, at), (unknowns, wishes, goal))

    def test_attributes(self):
        task = Task(unknowns=UNKNOWNS, wishes=WISHES, goal=GOAL)
        self.assertEqual((task.unknowns, task.wishes, task.goal), (UNKNOWNS, WISHES, GOAL))
        Task((("a", 0, 0),), (), (0,))
        Task((("abcdef", -BIG, BIG),), (), (BIG,))
        Task(UNKNOWNS, WISHES * 30, GOAL)

    def test_unknowns(self):
        for value in odd_values():
            if not isinstance(value, tuple) or value == ():
                self.refused(value, None, None, "unknowns", -1)
            self.refused((value,), WISHES, GOAL, "unknowns", 0) if repr(value) != "('x', 0, 9)" else None
            if repr(value) != "('x', 0, 9)":
                self.refused((("w", 0, 9), value, value), WISHES, GOAL, "unknowns", 1)
        wrong = (("x", 0), ("x", 0, 9, 9), ("x", 9, 0), ("x", True, 9), ("x", 0, True), ("x", 0, None), ["x", 0, 9],
                 ("", 0, 9), ("abcdefg", 0, 9), ("X", 0, 9), ("x1", 0, 9), ("x ", 0, 9), (b"x", 0, 9), (("x",), 0, 9),
                 ("x\n", 0, 9), ("\u00e9", 0, 9), (None, 0, 9), ("x", 0.0, 9), ("x", "0", 9))
        for unknown in wrong + tuple((word, 0, 9) for word in WORDS):
            self.refused((unknown,), (), (0,), "unknowns", 0)
        self.refused((("y", 0, 1), ("x", 0, 1)), (), (0, 0), "unknowns", 1)
        self.refused((("x", 0, 1), ("x", 0, 1)), (), (0, 0), "unknowns", 1)
        self.refused((("ab", 0, 1), ("a", 0, 1)), (), (0, 0), "unknowns", 1)
        self.assertEqual(Task((("a", 0, 1), ("ab", 0, 1), ("b", 0, 1)), (), (0, 0, 0)).goal, (0, 0, 0))
        for name in ("iff", "an", "rooms", "unlik", "great", "z"):
            Task(((name, 0, 0),), (), (0,))

    def test_wishes(self):
        for value in odd_values():
            if not isinstance(value, tuple):
                self.refused(UNKNOWNS, value, None, "wishes", -1)
            self.refused(UNKNOWNS, (value,), GOAL, "wishes", 0)
            self.refused(UNKNOWNS, WISHES + (value, value), GOAL, "wishes", 2)
        self.refused(UNKNOWNS, (("unlike", (0, 2)),), None, "wishes", 0)
        self.refused(UNKNOWNS, (("sum", (1,), False, 0),), None, "wishes", 0)

    def test_goals(self):
        for value in odd_values():
            if repr(value) == "(1, 2)":
                continue
            at = -1
            if isinstance(value, tuple) and len(value) == 2:
                at = 0
            self.refused(UNKNOWNS, WISHES, value, "goal", at)
            if not isinstance(value, int) or isinstance(value, bool):
                self.refused(UNKNOWNS, WISHES, (0, value), "goal", 1)
                self.refused(UNKNOWNS, WISHES, (value, value), "goal", 0)
        self.refused(UNKNOWNS, WISHES, (1,), "goal", -1)
        self.refused(UNKNOWNS, WISHES, (1, 2, 3), "goal", -1)

    def test_first_wrong_one(self):
        self.refused((), None, None, "unknowns", -1)
        self.refused((("x", 1, 0),), None, None, "unknowns", 0)
        self.refused(UNKNOWNS, (None,), None, "wishes", 0)

    def test_equality(self):
        one = Task(UNKNOWNS, WISHES, GOAL)
        self.assertTrue(one == Task(tuple(UNKNOWNS), tuple(WISHES), tuple(GOAL)))
        self.assertFalse(one != Task(UNKNOWNS, WISHES, GOAL))
        for other in (Task(UNKNOWNS, WISHES[::-1], GOAL), Task(UNKNOWNS, WISHES, (4, 5)),
                      Task(UNKNOWNS[:1] + (("y", -3, 8),), WISHES, GOAL), Task(UNKNOWNS, WISHES[:1], GOAL)):
            self.assertFalse(one == other)
            self.assertTrue(one != other)
        for value in odd_values() + [(UNKNOWNS, WISHES, GOAL)]:
            if not isinstance(value, (Hostile,)):
                self.assertFalse(one == value)
        self.assertIs(one.__eq__(Hostile()), False)

    def test_limits(self):
        many = 40
        unknowns = tuple((name, -BIG, BIG) for name in some_names(many))
        lots = tuple((at, -at) for at in range(400))
        task = Task(unknowns, (("table", (39, 0), lots),) * 60, (BIG,) * many)
        self.assertEqual(len(tasks.names_of(task)), 40)


class PartsTest(unittest.TestCase):
    def setUp(self):
        wishes = (("unlike", (0, 1)), ("sum", (2, 2), False, 5), ("sum", (0, 1), True, 1))
        self.task = Task(UNKNOWNS, wishes, GOAL)

    def test_parts(self):
        self.assertEqual(tasks.names_of(task=self.task), ("x", "y"))
        self.assertEqual(tasks.box_of(task=self.task), ((0, 9), (-3, 7)))
        self.assertEqual(tasks.rows_of(task=self.task), ((1, ((2, 2), False, 5)), (2, ((0, 1), True, 1))))
        self.assertEqual(tasks.rows_of(Task(UNKNOWNS, (("unlike", (0, 1)),), GOAL)), ())

    def test_place_of(self):
        self.assertEqual([tasks.place_of(task=self.task, name=name) for name in ("x", "y")], [0, 1])
        for value in odd_values() + ["z", "xy", "X", " x"]:
            if repr(value) != "'x'":
                with self.assertRaises(Refused) as caught:
                    tasks.place_of(self.task, value)
                self.assertEqual(caught.exception.word, "name")

    def test_goal_step(self):
        for goal, step in (((4, 6), 2), ((0, 0), 0), ((0, -5), 5), ((-4, 8), 4), ((1, 100), 1)):
            self.assertEqual(tasks.goal_step(Task(UNKNOWNS, (), goal)), step)

    def test_with_wishes(self):
        task = tasks.with_wishes(task=self.task, wishes=WISHES)
        self.assertEqual((task.unknowns, task.wishes, task.goal), (UNKNOWNS, WISHES, GOAL))
        for value, at in ((None, -1), ([], -1), ((WISHES[0], None), 1), (WISHES[0], 0)):
            with self.assertRaises(InvalidTask) as caught:
                tasks.with_wishes(self.task, value)
            self.assertEqual((caught.exception.word, caught.exception.at), ("wishes", at))

    def test_with_goal(self):
        task = tasks.with_goal(task=self.task, goal=(0, -1))
        self.assertEqual((task.unknowns, task.wishes, task.goal), (UNKNOWNS, self.task.wishes, (0, -1)))
        for value, at in ((None, -1), ((1,), -1), ((1, True), 1), ((None, None), 0)):
            with self.assertRaises(InvalidTask) as caught:
                tasks.with_goal(self.task, value)
            self.assertEqual((caught.exception.word, caught.exception.at), ("goal", at))

    def test_with_box(self):
        task = tasks.with_box(task=self.task, box=((1, 1), (-BIG, BIG)))
        self.assertEqual(task.unknowns, (("x", 1, 1), ("y", -BIG, BIG)))
        self.assertEqual((task.wishes, task.goal), (self.task.wishes, GOAL))
        for value, at in ((((1, 0), (0, 0)), 0), (((0, 1), (0, -1)), 1), (None, -1), (((0, 1),), -1),
                          (((0, 1), None), 1), (((0, 1), (0, 1, 2)), 1), (((True, 1), None), 0)):
            with self.assertRaises(InvalidTask) as caught:
                tasks.with_box(self.task, value)
            self.assertEqual((caught.exception.word, caught.exception.at), ("unknowns", at))

    def test_normal_task_and_are_same(self):
        rng = generator(19)
        for _ in range(200):
            task = made_task(rng)
            normal = tasks.normal_task(task=task)
            self.assertEqual((normal.unknowns, normal.goal), (task.unknowns, task.goal))
            self.assertEqual(tasks.normal_task(normal), normal)
            self.assertEqual(kept_of(task), kept_of(normal))
            self.assertIs(tasks.are_same(one=task, other=normal), True)
            self.assertIs(tasks.are_same(task, tasks.with_wishes(task, task.wishes[::-1] + task.wishes)), True)
        self.assertIs(tasks.are_same(self.task, tasks.with_goal(self.task, (4, 5))), False)
        self.assertIs(tasks.are_same(self.task, tasks.with_box(self.task, ((0, 9), (-3, 6)))), False)
        self.assertIs(tasks.are_same(self.task, tasks.with_wishes(self.task, ())), False)
        doubled = tasks.with_wishes(self.task, (("sum", (4, 4), False, 9),) + self.task.wishes[::2])
        self.assertIs(tasks.are_same(self.task, doubled), True)
        self.assertIs(self.task == doubled, False)


class OtherUnknownsTest(unittest.TestCase):
    def test_renamed(self):
        wishes = (("sum", (1, 2, 3), False, 4), ("unlike", (0, 1)), ("table", (2, 0), ((1, 5), (2, 4))),
                  ("either", (("sum", (1, 0, 0), False, 1), ("sum", (0, 1, -1), False, 2))),
                  ("bench", ((0, 7), (2, 8))), ("room", ((0, 1, 2), (1, 3, 4)), 5), ("round", (0, 1)))
        task = Task((("a", 0, 1), ("b", 2, 3), ("c", 4, 5)), wishes, (7, 8, 9))
        changed_task = tasks.renamed(task=task, names={"a": "m", "b": "n", "c": "l", "d": "m", 5: None})
        self.assertEqual(changed_task.unknowns, (("l", 4, 5), ("m", 0, 1), ("n", 2, 3)))
        self.assertEqual(changed_task.goal, (9, 7, 8))
        self.assertEqual(changed_task.wishes, (
            ("sum", (3, 1, 2), False, 4), ("unlike", (1, 2)), ("table", (0, 1), ((1, 5), (2, 4))),
            ("either", (("sum", (0, 1, 0), False, 1), ("sum", (-1, 0, 1), False, 2))),
            ("bench", ((0, 8), (1, 7))), ("room", ((1, 1, 2), (2, 3, 4)), 5), ("round", (1, 2))))

    def test_renamed_keeps_points(self):
        rng = generator(20)
        for _ in range(300):
            task = made_task(rng)
            new = rng.sample(["p", "q", "r", "s", "aa"], 3)
            names = dict(zip(tasks.names_of(task), new))
            order = [tasks.names_of(task)[new.index(name)] for name in sorted(new)]
            places = [tasks.names_of(task).index(name) for name in order]
            mixed = any(
                wish[0] == "round" and sorted(wish[1], key=places.index) != list(wish[1]) for wish in task.wishes)
            if mixed:
                with self.assertRaises(Refused) as caught:
                    tasks.renamed(task, names)
                self.assertEqual(caught.exception.word, "round")
                continue
            other = tasks.renamed(task, names)
            moved = {tuple(point[at] for at in places): worth for point, worth in kept_of(task).items()}
            self.assertEqual(kept_of(other), moved)
            back = {name: old for old, name in names.items()}
            self.assertEqual(tasks.renamed(other, back), task)

    def test_renamed_refused(self):
        task = Task((("a", 0, 1), ("b", 2, 3)), (("round", (0, 1)),), (0, 0))
        right = {"a": "x", "b": "y"}
        self.assertEqual(tasks.names_of(tasks.renamed(task, right)), ("x", "y"))
        for names, word in (({"a": "x"}, "names"), ({}, "names"), ({"a": "x", "b": "x"}, "names"),
                            ({"a": "y", "b": "x"}, "round"), ({"a": "y", "b": "round"}, "names"),
                            ({"a": "b", "b": "a"}, "round"), ({"a": "X", "b": "Y"}, "names"),
                            ({0: "x", 1: "y"}, "names")):
            with self.assertRaises(Refused) as caught:
                tasks.renamed(task, names)
            self.assertEqual(caught.exception.word, word, names)
        for value in odd_values():
            if repr(value) not in ("'x'",):
                for names in ({"a": value, "b": "y"}, {"a": "z", "b": value}, {"a": value, "b": value}):
                    if repr(value) == "'sum'" and names["a"] != names["b"]:
                        continue
                    with self.assertRaises(Refused) as caught:
                        tasks.renamed(task, names)
                    self.assertEqual(caught.exception.word, "names")

    def test_turned_and_moved(self):
        either = ("either", (("sum", (1, 2), False, 1), ("sum", (0, 3), False, 2)))
        table = ("table", (1, 0), ((1, 5), (1, 6), (2, 4)))
        task = Task((("x", 0, 4), ("y", 2, 5)), (("sum", (3, -1), True, 4), either, table), (7, 8))
        other = tasks.turned(task=task, name="y")
        self.assertEqual(other.unknowns, (("x", 0, 4), ("y", -5, -2)))
        self.assertEqual(other.goal, (7, -8))
        self.assertEqual(other.wishes, (
            ("sum", (3, 1), True, 4), ("either", (("sum", (1, -2), False, 1), ("sum", (0, -3), False, 2))),
            ("table", (1, 0), ((-2, 4), (-1, 5), (-1, 6)))))
        other = tasks.moved(task=task, name="x", amount=3)
        self.assertEqual(other.unknowns, (("x", -3, 1), ("y", 2, 5)))
        self.assertEqual(other.goal, (7, 8))
        self.assertEqual(other.wishes, (
            ("sum", (3, -1), True, -5), ("either", (("sum", (1, 2), False, -2), ("sum", (0, 3), False, 2))),
            ("table", (1, 0), ((1, 2), (1, 3), (2, 1)))))

    def test_turned_and_moved_keep_points(self):
        rng = generator(21)
        refused = 0
        for _ in range(400):
            task = made_task(rng, most=3)
            place, amount = rng.randint(0, 2), rng.choice((0, -4, 1, 7))
            name = tasks.names_of(task)[place]
            others = any(wish[0] in ("unlike", "round") and place in wish[1]
                         or wish[0] in ("bench", "room") and place in [job[0] for job in wish[1]]
                         for wish in task.wishes)
            if others:
                refused += 1
                for call in (lambda: tasks.turned(task, name), lambda: tasks.moved(task, name, amount)):
                    with self.assertRaises(Refused) as caught:
                        call()
                    self.assertEqual(caught.exception.word, "wish")
                continue
            kept = kept_of(task)
            turned = {changed(point, place, -point[place]): worth for point, worth in kept.items()}
            self.assertEqual(kept_of(tasks.turned(task, name)), turned)
            self.assertEqual(tasks.turned(tasks.turned(task, name), name), task)
            less = task.goal[place] * amount
            moved = {changed(point, place, point[place] - amount): worth - less for point, worth in kept.items()}
            self.assertEqual(kept_of(tasks.moved(task, name, amount)), moved)
            self.assertEqual(tasks.moved(tasks.moved(task, name, amount), name, -amount), task)
        self.assertGreater(refused, 50)

    def test_turned_and_moved_refused(self):
        task = Task((("x", 0, 4), ("y", 2, 5), ("z", 0, 1)), (("unlike", (0, 1)),), (7, 8, 9))
        for value in odd_values() + ["w", "xy"]:
            if repr(value) != "'x'":
                for call in (lambda: tasks.turned(task, value), lambda: tasks.moved(task, value, None)):
                    with self.assertRaises(Refused) as caught:
                        call()
                    self.assertEqual(caught.exception.word, "name")
            if not isinstance(value, int) or isinstance(value, bool):
                for name in ("x", "z"):
                    with self.assertRaises(InvalidNumber) as caught:
                        tasks.moved(task, name, value)
                    self.assertEqual(caught.exception.word, "amount")
        for call in (lambda: tasks.turned(task, "x"), lambda: tasks.moved(task, "y", 0)):
            with self.assertRaises(Refused) as caught:
                call()
            self.assertEqual(caught.exception.word, "wish")
        self.assertEqual(tasks.moved(task, "z", 10 ** 30).unknowns[2], ("z", -10 ** 30, 1 - 10 ** 30))


if __name__ == "__main__":
    unittest.main()
