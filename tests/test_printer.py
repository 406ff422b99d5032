"""Point 16: texts that are shown."""

import unittest

from paperbest.lexer import marks_of
from paperbest.printer import show_fraction, show_point, show_task, show_wish
from paperbest.tasks import Task, names_of
from tests.test_tasks import made_task
from tests.tools import generator

NAMES = ("x", "y", "z")
SHOWN = (
    (("sum", (1, -1, 2), False, 5), "x - y + 2 z >= 5"), (("sum", (-1, 0, 0), True, -3), "-x = -3"),
    (("sum", (-2, 0, 1), False, 0), "-2 x + z >= 0"), (("sum", (0, 1, -3), False, -10), "y - 3 z >= -10"),
    (("sum", (0, 0, 10), True, 0), "10 z = 0"),
    (("either", (("sum", (1, 0, 0), False, 1), ("sum", (0, -1, 0), False, -2), ("sum", (1, 1, 1), False, 0))),
     "x >= 1 or -y >= -2 or x + y + z >= 0"),
    (("unlike", (0, 1, 2)), "unlike x y z"), (("round", (0, 2)), "round x z"),
    (("table", (1, 0), ((-1, -2), (3, 4))), "table y x: -1 -2, 3 4"), (("table", (2,), ((5,),)), "table z: 5"),
    (("bench", ((0, 3), (2, 2))), "bench x 3, z 2"),
    (("room", ((0, 3, 2), (1, 2, 1)), 4), "room 4: x 3 2, y 2 1"))


class PrinterTest(unittest.TestCase):
    def test_fractions(self):
        for value, text in (((-3, 2), "-3/2"), ((5, 1), "5"), ((0, 1), "0"), ((-7, 1), "-7"), ((1, 9), "1/9")):
            self.assertEqual(show_fraction(value=value), text)
        self.assertEqual(show_fraction((10 ** 3999, 10 ** 3999 + 1)), "1" + "0" * 3999 + "/1" + "0" * 3998 + "1")

    def test_wishes(self):
        for wish, text in SHOWN:
            self.assertEqual(show_wish(names=NAMES, wish=wish), text)

    def test_tasks(self):
        unknowns = (("x", 0, 9), ("y", -3, 3), ("z", -7, -7))
        task = Task(unknowns, tuple(wish for wish, _ in SHOWN), (-1, 2, 0))
        self.assertEqual(show_task(task=task).split("\n"), [
            "least -x + 2 y"] + [text for _, text in SHOWN] + ["unknown x 0 9", "unknown y -3 3", "unknown z -7 -7"])
        self.assertEqual(show_task(Task(unknowns[:1], (), (0,))), "least 0\nunknown x 0 9")

    def test_example(self):
        """The task of the document's example, which it gets from a text."""
        wishes = (("sum", (2, 1), False, 2), ("sum", (-2, -1), False, -10), ("room", ((0, 4, 3), (1, 2, 1)), 3))
        task = Task((("x", 0, 9), ("y", -3, 3)), wishes, (-1, 2))
        self.assertEqual(show_task(task).split("\n")[:4],
                         ["least -x + 2 y", "2 x + y >= 2", "-2 x - y >= -10", "room 3: x 4 3, y 2 1"])

    def test_points(self):
        task = Task((("x", 0, 9), ("y", -3, 3)), (), (0, 0))
        self.assertEqual(show_point(task=task, point=(5, -3)), "x = 5\ny = -3")
        self.assertEqual(show_point(task, (0, 10 ** 20)), "x = 0\ny = 1" + "0" * 20)

    def test_blanks_and_marks(self):
        """One blank between marks, but none before : and , and behind a - that begins a term or a value."""
        rng = generator(16)
        for _ in range(200):
            task = made_task(rng)
            for wish, line in zip(task.wishes, show_task(task).split("\n")[1:]):
                self.assertEqual(line, show_wish(names_of(task), wish))
            for line in show_task(task).split("\n"):
                marks = [mark for _, _, mark in marks_of(line)]
                shown = ""
                for at, mark in enumerate(marks):
                    joined = mark in (":", ",") or at == 0
                    if at and marks[at - 1] == "-":
                        # A - with a term or a value before it is one between terms.
                        before = marks[at - 2]
                        joined = not (before.isalpha() and before not in ("least", "or") and "unknown" not in marks)
                    shown += ("" if joined else " ") + mark
                self.assertEqual(shown, line)
                self.assertEqual(line, line.strip())


if __name__ == "__main__":
    unittest.main()
