"""Points 93 and 94: live tasks, and answers that stay."""

import unittest

from paperbest.checker import is_answer
from paperbest.errors import InvalidNumber, Refused
from paperbest.live import Live
from paperbest.papers import Best, Nothing
from paperbest.tasks import Task, box_of, names_of, with_box, with_goal, with_wishes
from tests.tools import (
    KINDS, Hostile, answer_is_right, changed, generator, holds, holds_all, kept_points_of, made_wish, odd_values,
    some_names, some_task, total)

BIG = 10 ** 6
TASK = Task((("x", 0, 3), ("y", 0, 3)), (("sum", (1, 1), False, 4), ("unlike", (0, 1))), (2, 1))


class LiveTest(unittest.TestCase):
    def test_example(self):
        live = Live(TASK)
        self.assertEqual((live.answer().point, live.put(("sum", (0, -1), False, -2)), live.answer().worth), ((1, 3), 2, 7))
        self.assertEqual((live.undo(), live.changes(), live.answer().worth), (None, 0, 5))

    def deed(self, rng, live, task):
        """Some deed at a live task, and the task that is wanted behind it."""
        many = len(task.unknowns)
        word = rng.choice(("put", "put", "strike", "reach", "aim"))
        if word == "put":
            wish = made_wish(rng, many, rng.choice(KINDS))
            self.assertEqual(live.put(wish=wish), len(task.wishes))
            return with_wishes(task, task.wishes + (wish,))
        if word == "strike" and task.wishes:
            number = rng.randrange(len(task.wishes))
            self.assertEqual(live.strike(number=number), task.wishes[number])
            return with_wishes(task, task.wishes[:number] + task.wishes[number + 1:])
        if word == "reach":
            at, low = rng.randrange(many), rng.randint(-3, 2)
            high = low + rng.randint(0, 4)
            self.assertIsNone(live.reach(name=names_of(task)[at], low=low, high=high))
            return with_box(task, changed(box_of(task), at, (low, high)))
        goal = tuple(rng.randint(-3, 3) for _ in range(many))
        self.assertIsNone(live.aim(goal=goal))
        return with_goal(task, goal)

    def wrong_deed(self, rng, live, task):
        """A deed that is refused."""
        values = [item for item in odd_values() if item.__class__ is not int and item.__class__ is not tuple]
        value = rng.choice(values + [(Hostile(),), ("sum",), (None, None)])
        name = names_of(task)[0]
        error, word, call = rng.choice((
            (Refused, "wish", lambda: live.put(value)), (InvalidNumber, "number", lambda: live.strike(value)),
            (InvalidNumber, "number", lambda: live.strike(len(task.wishes))), (Refused, "name", lambda: live.reach(value, 0, 1)),
            (Refused, "range", lambda: live.reach(name, 1, 0)), (Refused, "range", lambda: live.reach(name, 0, value)),
            (Refused, "range", lambda: live.reach(name, value, 0)), (Refused, "goal", lambda: live.aim(value))))
        with self.assertRaises(error) as caught:
            call()
        self.assertEqual(caught.exception.word, word)

    def test_deeds(self):
        rng = generator(930)
        backs = told = 0
        for _ in range(120):
            task = some_task(rng, rng.randint(2, 3), KINDS, 2, 3)
            live, before = Live(task=task), [task]
            self.assertIs(live.present(), task)
            last = None
            for _ in range(rng.randint(1, 14)):
                deed = rng.random()
                if deed < 0.5:
                    before.append(self.deed(rng, live, before[-1]))
                elif deed < 0.7:
                    self.wrong_deed(rng, live, before[-1])
                elif deed < 0.85 and len(before) > 1:
                    self.assertIsNone(live.undo())
                    before.pop()
                    backs += 1
                else:
                    last = self.check_answer(live, before[-1], last)
                    told += 1
                self.assertEqual(live.present(), before[-1])
                self.assertEqual(live.changes(), len(before) - 1)
            while live.changes():
                live.undo()
            self.assertEqual(live.present(), task)
            with self.assertRaises(Refused) as caught:
                live.undo()
            self.assertEqual(caught.exception.word, "undo")
        self.assertGreater(backs, 60)
        self.assertGreater(told, 100)

    def check_answer(self, live, task, last):
        answer = live.answer()
        self.assertTrue(is_answer(task, answer) and answer_is_right(task, answer))
        self.assertIs(live.answer(), answer)
        kept = kept_points_of(task)
        self.assertEqual(isinstance(answer, Best), bool(kept))
        if kept:
            self.assertEqual(answer.worth, min(total(task.goal, point) for point in kept))
        if last is not None and is_answer(task, last):
            self.assertIs(answer, last)
        return answer

    def test_answers_that_stay(self):
        rng = generator(940)
        stayed = made = 0
        for _ in range(150):
            task = some_task(rng, 3, KINDS, 3, 3)
            live = Live(task)
            answer = live.answer()
            for _ in range(4):
                wish = made_wish(rng, 3, rng.choice(KINDS))
                live.put(wish)
                stays = isinstance(answer, Nothing) or holds(wish, answer.point)
                self.assertEqual(live.answer() is answer, stays)
                stayed, made = stayed + stays, made + (not stays)
                answer = live.answer()
                self.assertTrue(is_answer(live.present(), answer))
        self.assertGreater(stayed, 100)
        self.assertGreater(made, 30)

    def test_errors_in_their_sequence(self):
        live = Live(TASK)
        for value in odd_values() + ["z", "X", "and"]:
            if not isinstance(value, str) or value not in ("x", "y"):
                with self.assertRaises(Refused) as caught:
                    live.reach(value, 5, "z")
                self.assertEqual(caught.exception.word, "name")
        for wish in odd_values() + [("sum", (0, 0), False, 1), ("sum", (1,), False, 1), ("unlike", (0, 2)), ("round", (0,)), ["unlike", (0, 1)]]:
            with self.assertRaises(Refused) as caught:
                live.put(wish)
            self.assertEqual(caught.exception.word, "wish")
        for number in odd_values() + [2, -1, True]:
            if not isinstance(number, int) or isinstance(number, bool) or not 0 <= number < 2:
                with self.assertRaises(InvalidNumber) as caught:
                    live.strike(number)
                self.assertEqual(caught.exception.word, "number")
        for goal in odd_values() + [(1,), (1, 2, 3), (1, True), (1, 1.0), [1, 2], (1, Hostile())]:
            if not (isinstance(goal, tuple) and len(goal) == 2 and all(item.__class__ is int for item in goal)):
                with self.assertRaises(Refused) as caught:
                    live.aim(goal)
                self.assertEqual(caught.exception.word, "goal")
        self.assertEqual((live.present(), live.changes()), (TASK, 0))

    def test_no_attributes(self):
        for word in ("task", "told", "before"):
            self.assertFalse(hasattr(Live(TASK), word))

    def test_limits(self):
        names = some_names(40)
        task = Task(tuple((name, -BIG, BIG) for name in names), (), (1,) * 40)
        live = Live(task)
        for at in range(39):
            self.assertEqual(live.put(("sum", tuple(1 if place == at else -1 if place == at + 1 else 0 for place in range(40)), True, at)), at)
        answer = live.answer()
        self.assertTrue(is_answer(live.present(), answer) and holds_all(live.present(), answer.point))
        for _ in range(39):
            live.undo()
        self.assertEqual(live.answer().worth, -40 * BIG)


if __name__ == "__main__":
    unittest.main()
