"""Points 102 and 103: sessions and scripts."""

import unittest

from paperbest.answertexts import read_answer
from paperbest.blame import is_to_blame
from paperbest.checker import is_answer
from paperbest.commands import read_command
from paperbest.errors import InvalidText
from paperbest.listings import above_worth
from paperbest.printer import show_task, show_wish
from paperbest.reader import read_point, read_task
from paperbest.runs import Session, run
from paperbest.tasks import Task, box_of, names_of, with_box, with_goal, with_wishes
from tests.tools import (
    KINDS, changed, generator, holds, holds_all, kept_points_of, made_wish, odd_values, some_names, some_task, total)

BIG = 10 ** 6
TEXT = "least x + y\nx - y >= 1\nunknown x 0 3\nunknown y 0 3"
TASK = read_task(TEXT)
WORDS = ("ask", "undo", "blame", "guess", "strike", "list", "above", "reach", "try", "put", "aim")


def show_goal(names, goal):
    """The line of a goal."""
    text = ""
    for name, times in zip(names, goal):
        if times:
            sign = ("-" if times < 0 else "") if not text else (" - " if times < 0 else " + ")
            text += sign + ("" if abs(times) == 1 else f"{abs(times)} ") + name
    return "least " + (text or "0")


class SessionTest(unittest.TestCase):
    def command(self, rng, task):
        """Some command, as read_command returns it."""
        many, word = len(task.unknowns), rng.choice(WORDS)
        if word in ("ask", "undo", "blame", "guess"):
            return (word,)
        if word == "strike":
            return (word, rng.randint(0, len(task.wishes) + 1))
        if word == "list":
            return (word, rng.choice((0, 1, 5, 1000, 1001, BIG)))
        if word == "above":
            return (word, rng.randint(-9, 9))
        if word == "reach":
            return (word, rng.choice(names_of(task)), rng.randint(-3, 1), rng.randint(-1, 3))
        if word == "try":
            return (word, tuple(rng.randint(low - 1, high + 1) if rng.random() < 0.2 else rng.randint(low, high) for low, high in box_of(task)))
        if word == "put":
            return (word, tuple(made_wish(rng, many, rng.choice(KINDS)) for _ in range(rng.choice((1, 1, 2)))))
        return (word, tuple(rng.randint(-2, 2) for _ in range(many)))

    def check(self, task, before, command, text):
        """Check a reply; returns the task behind the command. What was before is changed too."""
        word, names, kept = command[0], names_of(task), kept_points_of(task)
        if word == "put":
            first = len(task.wishes)
            self.assertEqual(text, " ".join(["wishes"] + [str(first + at) for at in range(len(command[1]))]))
            for wish in command[1]:
                before.append(task)
                task = with_wishes(task, task.wishes + (wish,))
            return task
        if word == "strike":
            number = command[1]
            if number >= len(task.wishes):
                self.assertEqual(text, "refused number")
                return task
            self.assertEqual(text, "struck " + show_wish(names, task.wishes[number]))
            before.append(task)
            return with_wishes(task, task.wishes[:number] + task.wishes[number + 1:])
        if word == "reach":
            _, name, low, high = command
            if low > high:
                self.assertEqual(text, "refused range")
                return task
            self.assertEqual(text, f"range {name} {low} {high}")
            before.append(task)
            return with_box(task, changed(box_of(task), names.index(name), (low, high)))
        if word == "aim":
            self.assertEqual(text, show_goal(names, command[1]))
            before.append(task)
            return with_goal(task, command[1])
        if word == "undo":
            if not before:
                self.assertEqual(text, "refused undo")
                return task
            task = before.pop()
            self.assertEqual(text, f"changes {len(before)}")
            return task
        if word == "try":
            self.assertEqual(text, self.tried(task, command[1]))
        elif word == "list":
            self.assertEqual(text, self.listing(task, kept, command[1]))
        else:
            self.check_answer(task, kept, command, text)
        return task

    def tried(self, task, point):
        beyond = [name for (name, low, high), value in zip(task.unknowns, point) if not low <= value <= high]
        numbers = [str(k) for k, wish in enumerate(task.wishes) if not holds(wish, point)]
        if beyond or numbers:
            return " ".join(["beyond"] + beyond if beyond else ["broken"] + numbers)
        return f"kept {total(task.goal, point)}"

    def listing(self, task, kept, most):
        if most > 1000:
            return "refused most"
        if not kept:
            return "nothing"
        least = min(total(task.goal, point) for point in kept)
        best = [point for point in kept if total(task.goal, point) == least]
        if len(best) > most:
            return "refused many"
        return "\n".join([f"best {least}"] + [" ".join(map(str, point)) for point in best])

    def check_answer(self, task, kept, command, text):
        word = command[0]
        if word == "guess":
            self.assertEqual(text == "unknown", not kept) if not kept else self.assertNotEqual(text, "")
            if text != "unknown":
                self.assertIn(read_point(task, text), kept)
        elif word == "blame":
            if kept:
                self.assertEqual(text, "kept")
                return
            first, *numbers = text.split(" ")
            lot = tuple(map(int, numbers))
            self.assertEqual(first, "blame")
            self.assertTrue(is_to_blame(task, lot))
            self.assertFalse(any(is_to_blame(task, tuple(k for k in lot if k != number)) for number in lot))
        else:
            if word == "above":
                if not any(task.goal):
                    self.assertEqual(text, "refused goal")
                    return
                task = above_worth(task, command[1])
            self.assertTrue(is_answer(task, read_answer(task, text)), text)

    def test_sessions(self):
        rng = generator(1020)
        seen = {}
        for _ in range(150):
            task = some_task(rng, rng.randint(2, 3), KINDS, 2, 3)
            session, before = Session(task=task), []
            self.assertEqual(session.present(), task)
            for _ in range(rng.randint(1, 14)):
                command = self.command(rng, task)
                text = session.reply(command=command)
                self.assertIsInstance(text, str)
                task = self.check(task, before, command, text)
                self.assertEqual(session.present(), task)
                seen[command[0], text.split(" ")[0].split("\n")[0]] = True
        wanted = {("ask", "best"), ("ask", "nothing"), ("undo", "changes"), ("undo", "refused"), ("blame", "kept"), ("blame", "blame"),
                  ("guess", "unknown"), ("strike", "struck"), ("strike", "refused"), ("list", "best"), ("list", "nothing"), ("list", "refused"),
                  ("above", "best"), ("above", "nothing"), ("above", "refused"), ("reach", "range"), ("reach", "refused"), ("try", "beyond"),
                  ("try", "broken"), ("try", "kept"), ("put", "wishes"), ("aim", "least")}
        self.assertLessEqual(wanted, set(seen))

    def test_replies(self):
        session = Session(TASK)
        for line, wanted in (
                (": put 1 <= x + y <= 5", "wishes 1 2"), (": put unlike x y", "wishes 3"), (": strike 2", "struck -x - y >= -5"),
                (": reach x -1 5", "range x -1 5"), (": reach x 5 -1", "refused range"), (": aim greatest 2 x", "least -2 x"),
                (": aim least 0", "least 0"), (": above 3", "refused goal"), (": undo", "changes 6"), (": undo", "changes 5"),
                (": try 6 4", "beyond x y"), (": try 0 0", "broken 0 1 2"), (": try 3 1", "kept 4"), (": strike 3", "refused number"),
                (": list 1001", "refused most"), (": list 0", "refused many"), (": list 3", "best 1\n1 0"), (": blame", "kept"),
                (": undo", "changes 4"), (": undo", "changes 3"), (": undo", "changes 2"), (": undo", "changes 1"), (": undo", "changes 0"), (": undo", "refused undo")):
            self.assertEqual(session.reply(read_command(("x", "y"), line)), wanted, line)
        self.assertEqual(session.present(), TASK)
        self.assertFalse(hasattr(session, "task"))


class RunTest(unittest.TestCase):
    def test_example(self):
        self.assertEqual(run(TEXT + "\n: list 9\n: put y >= 2\n: try 3 1\n: undo\n: undo"), (
            "best 1\n1 0", "wishes 1", "broken 1", "changes 0", "refused undo"))

    def test_scripts(self):
        self.assertEqual(run(text=TEXT), ())
        self.assertEqual(run("\n" + TEXT + "\n\n :undo\n\n  : try 1 0\n"), ("refused undo", "kept 1"))
        replies = run(TEXT + "\n: put y >= 4\n: ask\n: blame\n: list 9\n: guess\n: undo\n: guess\n: ask\n: above 3")
        task = read_task(TEXT)
        self.assertEqual((replies[0], replies[2:6]), ("wishes 1", ("blame 1", "nothing", "unknown", "changes 0")))
        self.assertTrue(holds_all(task, read_point(task, replies[6])))
        self.assertEqual(read_answer(task, replies[7]).worth, 1)
        self.assertEqual(read_answer(above_worth(task, 3), replies[8]).worth, 4 if any(
            total(task.goal, point) == 4 for point in kept_points_of(task)) else 5)

    def test_errors(self):
        for text, at in ((TEXT + "\n: asks", (4, 0)), (TEXT + "\n\n: ask\nask", (6, 0)), (TEXT + "\n: strike -1\n: x", (4, 0)),
                         ("least x\n: ask", (0, 7)), (": ask", (0, 0)), ("least x\nunknown x 0\n: x", (1, 11)), ("", (0, 0))):
            with self.assertRaises(InvalidText) as caught:
                run(text)
            self.assertEqual((caught.exception.line, caught.exception.at), at, text)
        for value in odd_values():
            with self.assertRaises(InvalidText) as caught:
                run(value)
            if not isinstance(value, str):
                self.assertEqual((caught.exception.line, caught.exception.at), (-1, -1))

    def test_limits(self):
        names = some_names(40)
        task = Task(tuple((name, -BIG, BIG) for name in names), (("unlike", tuple(range(40))),), (0,) * 40)
        text = show_task(task) + "\n: guess\n: ask\n: reach " + names[0] + f" {BIG} {BIG}\n: ask\n: aim greatest " + names[1] + "\n: strike 0"
        replies = run(text)
        self.assertTrue(holds_all(task, read_point(task, replies[0])))
        self.assertTrue(is_answer(task, read_answer(task, replies[1])))
        self.assertEqual(replies[4:], ("least -" + names[1], "struck unlike " + " ".join(names)))


if __name__ == "__main__":
    unittest.main()
