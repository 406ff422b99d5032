"""Points 12 to 16: texts that are read."""

import unittest

from paperbest.errors import InvalidText
from paperbest.lexer import marks_of
from paperbest.printer import show_point, show_task, show_wish
from paperbest.reader import completed, read_point, read_task, read_wishes
from paperbest.tasks import Task, names_of
from tests.plain_texts import is_task_text, is_wish_line, line_holds, lines_of, sum_of
from tests.test_tasks import made_task
from tests.tools import generator, holds_all, odd_values, points_of

TEXT = ("greatest x - 2 y + 3 x\n\n1 <= x + 1/2 y <= 5\nunlike x y z\ntable y x: 1 -2, 3 4\nbench x 3, y 2\n"
        "room 4: x 3 2, y 2 1\nround z x\nx >= 1 or y <= 2 or z >= -3\nif x >= 1 and y <= 4 then x >= 3 or y >= 2\n"
        "1/2 x + 3 >= y - x\nunknown x 0 9\nunknown y -3 3\nunknown z -7 -7\n")
NAMES = ("x", "y", "z")
RANGES = "\nunknown x 0 9\nunknown y 0 9"
MANY = 4000


def error_of(call, *values):
    """The line and the place of the error that a call raises, None if it raises none."""
    try:
        call(*values)
    except InvalidText as error:
        return error.line, error.at
    return None


class ReadTaskTest(unittest.TestCase):
    def wishes(self, line):
        return read_task(f"least 0\n{line}\nunknown x 0 9\nunknown y -3 3\nunknown z -7 -7").wishes

    def test_whole_text(self):
        task = read_task(text=TEXT)
        self.assertIsInstance(task, Task)
        self.assertEqual(task.unknowns, (("x", 0, 9), ("y", -3, 3), ("z", -7, -7)))
        self.assertEqual(task.goal, (-4, 2, 0))
        self.assertEqual(task.wishes, (
            ("sum", (2, 1, 0), False, 2), ("sum", (-2, -1, 0), False, -10), ("unlike", (0, 1, 2)),
            ("table", (1, 0), ((1, -2), (3, 4))), ("bench", ((0, 3), (1, 2))),
            ("room", ((0, 3, 2), (1, 2, 1)), 4), ("round", (0, 2)),
            ("either", (("sum", (1, 0, 0), False, 1), ("sum", (0, -1, 0), False, -2), ("sum", (0, 0, 1), False, -3))),
            ("either", (("sum", (-1, 0, 0), False, 0), ("sum", (0, 1, 0), False, 5), ("sum", (1, 0, 0), False, 3),
                        ("sum", (0, 1, 0), False, 2))),
            ("sum", (3, -2, 0), False, -6)))

    def test_goals(self):
        for line, goal in (("least 0", (0, 0)), ("greatest 0", (0, 0)), ("least x", (1, 0)), ("least -x", (-1, 0)),
                           ("least + x", (1, 0)), ("greatest x", (-1, 0)), ("greatest - 2 x - y", (2, 1)),
                           ("least 3 x + 2 y", (3, 2)), ("least x - x", (0, 0)), ("least 0 x", (0, 0)),
                           ("least 0 x + 5 y", (0, 5)), ("least 2x+3y-4x", (-2, 3)), ("least - 0 y", (0, 0))):
            self.assertEqual(read_task(line + RANGES).goal, goal, line)

    def test_relations(self):
        for line, wishes in (
                ("x >= 1", (((1, 0, 0), False, 1),)), ("x <= 1", (((-1, 0, 0), False, -1),)),
                ("x = 1", (((1, 0, 0), True, 1),)), ("1 >= x", (((-1, 0, 0), False, -1),)),
                ("x >= y", (((1, -1, 0), False, 0),)), ("2 x + 4 y >= 6", (((2, 4, 0), False, 6),)),
                ("2/4 x >= 6/4", (((1, 0, 0), False, 3),)), ("1/2 x + 1/3 y = 1/6 z", (((3, 2, -1), True, 0),)),
                ("1/2 x <= 2/3", (((-3, 0, 0), False, -4),)), ("4/2 x >= 1", (((2, 0, 0), False, 1),)),
                ("3 + x - 1 >= y + 4 - x", (((2, -1, 0), False, 2),)), ("-x >= -3", (((-1, 0, 0), False, -3),)),
                ("+ x >= + 3", (((1, 0, 0), False, 3),)), ("x >= 0 y", (((1, 0, 0), False, 0),)),
                ("0/7 x + y >= 3", (((0, 1, 0), False, 3),)), ("x + x + y >= x + 2", (((1, 1, 0), False, 2),)),
                ("1 <= x <= 5", (((1, 0, 0), False, 1), ((-1, 0, 0), False, -5))),
                ("5 >= x >= y", (((-1, 0, 0), False, -5), ((1, -1, 0), False, 0))),
                ("x = 1/2 y = 3", (((2, -1, 0), True, 0), ((0, 1, 0), True, 6))),
                ("1/2 >= x >= 1/3", (((-2, 0, 0), False, -1), ((3, 0, 0), False, 1))),
                ("x - 1 = x + y + 1", (((0, -1, 0), True, 2),))):
            self.assertEqual(self.wishes(line), tuple(("sum",) + wish for wish in wishes), line)

    def test_eithers_and_conditions(self):
        for line, sums in (
                ("x >= 1 or y <= 2", (((1, 0, 0), 1), ((0, -1, 0), -2))),
                ("1/2 x >= y or 3 >= z", (((1, -2, 0), 0), ((0, 0, -1), -3))),
                ("y <= 2 or x >= 1 or y <= 2", (((0, -1, 0), -2), ((1, 0, 0), 1), ((0, -1, 0), -2))),
                ("if x >= 1 then y >= 2", (((-1, 0, 0), 0), ((0, 1, 0), 2))),
                ("if x <= 1 then y <= 2", (((1, 0, 0), 2), ((0, -1, 0), -2))),
                ("if 1/2 x >= 1/3 and y <= z then x >= 5 or z >= 6",
                 (((-3, 0, 0), -1), ((0, 1, -1), 1), ((1, 0, 0), 5), ((0, 0, 1), 6)))):
            wanted = ("either", tuple(("sum", coefficients, False, bound) for coefficients, bound in sums))
            self.assertEqual(self.wishes(line), (wanted,), line)
        six = " or ".join(["x >= 1"] * 6)
        self.assertEqual(len(self.wishes(six)[0][1]), 6)
        for line in ("if " + " and ".join(["x >= 1"] * 5) + " then y >= 1",
                     "if x >= 1 then " + " or ".join(["y >= 1"] * 5)):
            self.assertEqual(len(self.wishes(line)[0][1]), 6)

    def test_other_wishes(self):
        for line, wish in (
                ("unlike z x", ("unlike", (0, 2))), ("unlike y z x", ("unlike", (0, 1, 2))),
                ("round y x", ("round", (0, 1))), ("table z: 4, 4, -1, -0", ("table", (2,), ((-1,), (0,), (4,)))),
                ("table y x: 3 4, 1 -2, 3 4", ("table", (1, 0), ((1, -2), (3, 4)))),
                ("bench z 3, x 2", ("bench", ((0, 2), (2, 3)))),
                ("room 4: y 3 4, x 2 1", ("room", ((0, 2, 1), (1, 3, 4)), 4))):
            self.assertEqual(self.wishes(line), (wish,), line)

    def test_blanks_and_lines(self):
        task = read_task("least x\nx >= 1\nunknown x 0 9")
        for text in ("\n\n  least   x\n \nunknown x 0 9\n   x>=1  \n\n", "least x\n\n\nx >=1\nunknown x 0 9\n",
                     "least x\nunknown x   0    9\nx>=1"):
            self.assertEqual(read_task(text), task)
        self.assertEqual(names_of(read_task("least b\nunknown b 0 1\nunknown abc 0 1\nunknown a 0 1")),
                         ("a", "abc", "b"))
        # Lines of unknowns may stand ahead of those that name them.
        self.assertEqual(read_task("least 0\nunknown y 0 9\nunknown x 0 9\nunlike x y").wishes, (("unlike", (0, 1)),))
        self.assertEqual(read_task("least 0\nunknown x -0 0").unknowns, (("x", 0, 0),))
        # Names that are parts of words.
        self.assertEqual(names_of(read_task("least a\na >= great\nunknown a 0 1\nunknown great 0 1\nunknown unknow 0 1")),
                         ("a", "great", "unknow"))

    def test_long_numerals(self):
        digits = "7" * MANY
        task = read_task(f"least {digits} x\nx >= {digits}\n1/{digits} x >= 1\nunknown x -{digits} {digits}")
        self.assertEqual(task.goal, (int(digits),))
        self.assertEqual(task.wishes[0], ("sum", (1,), False, int(digits)))
        self.assertEqual(task.wishes[1], ("sum", (1,), False, int(digits)))
        self.assertEqual(task.unknowns, (("x", -int(digits), int(digits)),))
        self.assertEqual(read_task(show_task(task)), task)

    def test_shown_again(self):
        rng = generator(160)
        for _ in range(300):
            task = made_task(rng)
            self.assertEqual(read_task(show_task(task)), task)
            names = names_of(task)
            for wish in task.wishes:
                self.assertEqual(read_wishes(names=names, text=show_wish(names, wish)), (wish,))
            point = tuple(rng.randint(-9, 9) for _ in names)
            self.assertEqual(read_point(task=task, text=show_point(task, point)), point)


# For each text the line and the place of its error, in a text with two unknowns behind it if it ends with one.
REFUSED = (
    ("", 0, 0), ("   ", 0, 3), ("\n\n ", 2, 1), ("x", 0, 0), ("least", 0, 5), ("least ", 0, 6), ("least\n", 0, 5),
    ("least 0", 0, 7), ("least x", 0, 7), ("least x\n", 1, 0), ("least x\n\n  ", 2, 2), ("Least x", 0, 0),
    ("least 5\n", 0, 7), ("least 5", 0, 7), ("least 0 + x", 0, 8), ("least + 0\n", 0, 9), ("least 1/2 x", 0, 6),
    ("least x y", 0, 8), ("least x + - y", 0, 10), ("least x 2", 0, 8), ("least 02 x", 0, 6), ("least least", 0, 6),
    ("least x >= 3", 0, 8), ("least x +\n", 0, 9), ("least abcdefg", 0, 6), ("least x\nleast x", 1, 0),
    ("greatest or", 0, 9), ("least x_", 0, 7), ("least x;", 0, 7), ("least ^ x", 0, 6), ("least 2 3 x", 0, 8),
    ("least x\nunknown x 0 9\nx", 2, 1), ("least x\nunknown x 0 9\nx >", 2, 2), ("least x\nunknown x 0 9\nx > = 3", 2, 2),
    ("least x\nunknown x 0 9\nunknown x 0 9", 2, 8), ("least x\nunknown y 0 9", 1, 13),
    ("least 0\ny >= 3\nunknown x 0 9\n", 3, 0), ("least 0\nunknown 3 0 9", 1, 8), ("least 0\nunknown or 0 9", 1, 8),
    ("least 0\nunknown x\n", 1, 9), ("least 0\nunknown x 0\n", 1, 11), ("least 0\nunknown x 0 9 9", 1, 14),
    ("least 0\nunknown x 1/2 9", 1, 10), ("least 0\nunknown x 5 4", 1, 12), ("least 0\nunknown x 5 -", 1, 12),
    ("least 0\nunknown x 5 - 6", 1, 12), ("least 0\nunknown x 0 - 1", 1, 14), ("least 0\nunknown x -3 -4", 1, 14),
    ("least 0\nunknown x - - 4", 1, 12), ("least 0\nunknown x + 4", 1, 10), ("least 0\nunknown x 00 1", 1, 10),
    ("least 0\nunknown x 0 9, x", 1, 13), ("least 0\nunknown x 0 9 unknown", 1, 14))

# The same for lines behind a goal.
REFUSED_LINES = (
    ("x\n", 1), ("x >= \n", 5), ("x >= x\n", 6), ("x >= x", None), ("1 >= 2\n", 6), ("0 x >= 3\n", 8), ("x >= x + 3\n", 10),
    ("x + y >= y + x\n", 14), ("1/2 x >= 2/4 x\n", 14), ("x >= x or y >= 1", 7), ("if x >= x and y >= 1", 10),
    ("if x >= 1 then y >= y or", 22), ("if y >= y then", 10), ("1 <= 3 <= x", 7), ("1 <= x <= x\n", 11),
    ("1 <= x >= 2", 7), ("1 <= x = 2", 7), ("1 <= x <= 2 <= 3", 12), ("x = 1 or y >= 2", 6), ("1 <= x <= 2 or y >= 2", 12),
    ("x >= 1 or y = 2", 12), ("x >= 1 or 2 <= y <= 3", 17), ("x >= 1 and y >= 2", 7), ("x >= 1 then", 7),
    (" or ".join(["x >= 1"] * 6) + " or", 57), ("if " + " and ".join(["x >= 1"] * 5) + " and", 54),
    ("if " + " and ".join(["x >= 1"] * 5) + " then y >= 1 or", 66),
    ("if x >= 1 then " + " or ".join(["y >= 1"] * 5) + " or", 62), ("if x = 1", 5), ("if x >= 1 or y >= 1", 10),
    ("if x >= 1 then y = 1", 17), ("if x >= 1\n", 9), ("if x >= 1 then\n", 14), ("if x >= 1 then y >= 1 and", 22),
    ("if 1 <= x <= 2", 10), ("if then", 3), ("unlike\n", 6), ("unlike x\n", 8), ("unlike x x", 9), ("unlike x, y", 8),
    ("unlike x y x", 11), ("unlike x 3", 9), ("round x\n", 7), ("round x y y", 10), ("round 3", 6), ("unlike x or", 9),
    ("table x\n", 7), ("table x x", 8), ("table: 3", 5), ("table x:\n", 8), ("table x: 1 2", 11), ("table x y: 1\n", 12),
    ("table x y: 1 2,\n", 15), ("table x y: 1, 2", 12), ("table x y: 1 2 3", 15), ("table x: 1/2", 9),
    ("table x: +1", 9), ("table x: --1", 10), ("table x: y", 9), ("table x 3", 8), ("bench x 3\n", 9), ("bench x 3 y", 10),
    ("bench x 0", 8), ("bench x 1/2", 8), ("bench x -1", 8), ("bench x 3, x", 11), ("bench x 3, y 2,\n", 15),
    ("bench x\n", 7), ("bench x 3 4", 10), ("bench: x 3", 5), ("room x 3", 5), ("room 0", 5), ("room 4\n", 6),
    ("room 4 x", 7), ("room 4: x 3 5", 12), ("room 4: x 0", 10), ("room 4: x 3 0", 12), ("room 4: x 3, y", 11),
    ("room 4: x 3 2\n", 13), ("room 4: x 3 2, x", 15), ("room 4: x 3 2 1", 14), ("room 1/2", 5), ("room 01", 5),
    ("x y >= 3", 2), ("x 3 >= 3", 2), ("3 4 >= x", 2), ("x >= 1/0", 5), ("x >= 1/02", 5), ("x >= 01/2", 5),
    ("x >= 1/2/3", 8), ("x >= 1 /2", 7), ("x >= 1/ 2", 6), ("x => 1", 3), ("x == 1", 3), ("x <> 1", 2), ("x >= >= 1", 5),
    (">= 1", 0), ("or", 0), ("and x", 0), ("then", 0), ("least", 0), ("greatest x", 0), ("abcdefg >= 1", 0),
    ("x >= 1 unknown", 7), ("x >= - - 1", 7), ("x >= 1,", 6), ("x >= 1 2", 7), (": ask", 0), ("x >= (1)", 5), ("x + >= 1", 4))


class RefusedTest(unittest.TestCase):
    def test_texts(self):
        for text, line, at in REFUSED:
            self.assertEqual(error_of(read_task, text), (line, at), repr(text))

    def test_lines(self):
        for line, at in REFUSED_LINES:
            at = len(line) if at is None else at
            text = f"least 0{RANGES}\n{line}"
            self.assertEqual(error_of(read_task, text), (3, at), repr(line))
            if not line.endswith("\n"):
                self.assertEqual(error_of(read_wishes, ("x", "y"), line), (0, at), repr(line))

    def test_any_values(self):
        for value in odd_values():
            if not isinstance(value, str):
                for call in (read_task, completed, lambda text: read_wishes(NAMES, text),
                             lambda text: read_point(read_task(TEXT), text)):
                    self.assertEqual(error_of(call, value), (-1, -1))

    def test_signs(self):
        for sign in "!\"#$&'()*.;<>?@[]\\^_`{|}~ABCZ%/":
            self.assertEqual(error_of(read_task, f"least 0{RANGES}\nx >= 1 {sign}"), (3, 7), sign)


class ReadWishesTest(unittest.TestCase):
    def test_lines(self):
        self.assertEqual(read_wishes(("x", "y"), "1 <= x <= y"), (
            ("sum", (1, 0), False, 1), ("sum", (-1, 1), False, 0)))
        self.assertEqual(read_wishes(NAMES, " unlike z   x "), (("unlike", (0, 2)),))
        self.assertEqual(read_wishes(("x",), "table x: 3"), (("table", (0,), ((3,),)),))

    def test_refusals(self):
        for names, text, at in (
                (("x", "y"), "", 0), (("x", "y"), "  ", 2), (("x", "y"), "x >= 1\n", 6), (("x", "y"), "\nx >= 1", 0),
                (("x", "y"), "z >= 1", 0), (("x", "y"), "x >= z", 5), (("x", "y"), "unknown x 0 9", 0),
                (("x", "y"), "x >= 2 z", 7), (("x", "y"), "unlike x z", 9), (("x", "y"), "least x", 0),
                # No line begins so if there are too few names.
                (("x",), "unlike x y", 0), (("x",), "unlike x", 0), (("x",), "round x", 0), (("x",), "bench x 3", 0),
                (("x",), "room 4: x 3 2", 0), (("x",), "unlike", 0), (("x", "y"), "unlike x y z", 11),
                (("x", "y"), "bench x 3, y 2,", 14), (("x", "y"), "bench x 3, y 2, z 1", 14),
                (("x", "y"), "room 4: x 3 2, y 2 1,", 20), (NAMES, "bench x 3, y 2,", 15),
                (NAMES, "room 4: x 3 2, y 2 1,", 21), (("x",), "table x x", 8), (("x",), "x >= x", 6),
                (("x", "y"), "table x y x", 10), (("x",), "x >= 1 or", 9), (("x",), "x >= 1 or x", 11)):
            self.assertEqual(error_of(read_wishes, names, text), (1 if text.startswith("\nx") else 0, at)
                             if not text.startswith("\n") else (0, 0), (names, text))


class ReadPointTest(unittest.TestCase):
    def setUp(self):
        self.task = Task((("x", 0, 9), ("y", 0, 9)), (("sum", (1, 1), False, 5),), (1, 1))

    def test_points(self):
        for text in ("x = -3\ny = 40", "y = 40\nx = -3", "\n  y=40\n\n x =-3\n\n", "x = - 3\ny = 40\n"):
            self.assertEqual(read_point(self.task, text), (-3, 40), text)
        big = "9" * MANY
        self.assertEqual(read_point(self.task, f"x = {big}\ny = -{big}"), (int(big), -int(big)))

    def test_refusals(self):
        for text, line, at in (
                ("", 0, 0), ("x = 3", 0, 5), ("x = 3\n", 1, 0), ("x = 3\nx = 4", 1, 0), ("x 3", 0, 2), ("z = 3", 0, 0),
                ("x = y", 0, 4), ("x = 1/2", 0, 4), ("x = 03", 0, 4), ("x = +3", 0, 4), ("x = 3 y = 4", 0, 6),
                ("x = 3\ny = 4\nx = 3", 2, 0), ("x = 3\ny = 4\n;", 2, 0), ("x >= 3", 0, 2), ("x\n", 0, 1),
                ("x =\n", 0, 3), ("x = -\n", 0, 5), ("x = 3\ny", 1, 1), ("x = 3\ny = 4 5", 1, 6), ("best 3", 0, 0)):
            self.assertEqual(error_of(read_point, self.task, text), (line, at), text)


class CompletedTest(unittest.TestCase):
    def check(self, text):
        told = completed(text=text)
        self.assertTrue(told.startswith(text))
        marks = [mark for _, _, mark in marks_of(text)]
        self.assertEqual([mark for _, _, mark in marks_of(told)][:len(marks)], marks, text)
        self.assertTrue(is_task_text(told), told)
        read_task(told)

    def test_beginnings(self):
        """Each beginning of a text that ends with a whole mark is one, and each other one that may go on."""
        for text in (TEXT, "least 0 x\nunknown x -3 -2\n-3 <= x <= y <= 4", "greatest 0\nif x >= x + y then y <= 2/3\n"):
            ends = {0}
            lines = text.split("\n")
            for line, at, mark in marks_of(text):
                ends.add(sum(len(part) + 1 for part in lines[:line]) + at + len(mark))
            stop = text.rfind("<= 4")
            for end in range(len(text) + 1):
                fails = error_of(read_task, text[:end])
                if 0 < stop < end - 1:
                    continue
                if end in ends:
                    self.check(text[:end])
                elif error_of(completed, text[:end]) is not None:
                    self.assertEqual(error_of(completed, text[:end]), fails)
                    # A part of a mark, such as > or an unknown word, that is no mark there.
                    self.assertNotIn(text[end - 1], " \n")
                else:
                    self.check(text[:end])

    def test_edges(self):
        for text in ("", " ", "\n\n", "least", "least -", "least 0", "least 5", "least 0\nx >= x", "least 0\nx = y = y",
                     "least 0\nunknown", "least 0\nunknown x 7", "least 0\nunknown x -7 -", "least 0\nunknown x 0 -",
                     "least 0\nunlike", "least 0\nroom 3: x 3", "least 0\ntable x y: 1 2, -", "least abcdef\nunknown",
                     "least 0\nif x >= 1 and y >= 1 and z >= 1 and x >= 2 and y >= 2", "least 0\nx >= 1 or",
                     "least 0\nbench a 1, b 1, c 1", "least 0\nunknown a 0 1\nunknown",
                     "least 0\n3", "least 0\n1/2", "least 0\n-", "least 0\nx >= 0 x", "least 0\n1 <= 2"):
            self.check(text)
        letters = "abcdefghijklmnopqrstuvwxyz"
        self.check("least 0\nbench " + ", ".join(f"{letter} 1" for letter in letters) + ",")
        self.check("least 0" + "".join(f"\nunknown {letter} 0 1" for letter in letters) + "\nunknown")
        whole = "least x\nunknown x 0 1"
        self.assertEqual(read_task(completed(whole)), read_task(whole))

    def test_refusals(self):
        for text, line, at in REFUSED:
            end = text.split("\n")
            if (line, at) == (len(end) - 1, len(end[-1])):
                self.check(text)
            else:
                self.assertEqual(error_of(completed, text), (line, at), text)
        for line, at in REFUSED_LINES:
            if at is not None:
                self.assertEqual(error_of(completed, f"least 0{RANGES}\n{line}"), (3, at), line)


def some_side(rng, names):
    """Some side as a list of marks."""
    marks = []
    for _ in range(rng.randint(1, 3)):
        if marks or rng.random() < 0.2:
            marks.append(rng.choice("+-"))
        numeral = rng.choice(("1", "2", "0", "3", "1/2", "4/3"))
        name = rng.choice(names)
        marks.extend(rng.choice(([name], [numeral, name], [numeral])))
    return marks


def some_line(rng, names):
    """The marks of some line of wishes."""
    while True:
        kind = rng.randrange(8)
        chosen = rng.sample(names, rng.randint(1 if kind == 4 else 2, len(names)))

        def single(senses=(">=", "<=")):
            return some_side(rng, names) + [rng.choice(senses)] + some_side(rng, names)

        def joined(word, many):
            marks = single()
            for _ in range(many - 1):
                marks += [word] + single()
            return marks

        def value():
            return rng.choice((["0"], ["1"], ["2"], ["-", "1"]))

        if kind == 0:
            marks = single((">=", "<=", "="))
        elif kind == 1:
            sense = rng.choice((">=", "<=", "="))
            marks = some_side(rng, names) + [sense] + some_side(rng, names) + [sense] + some_side(rng, names)
        elif kind == 2:
            marks = joined("or", rng.randint(2, 6))
        elif kind == 3:
            many = rng.randint(1, 5)
            marks = ["if"] + joined("and", many) + ["then"] + joined("or", rng.randint(1, 6 - many))
        elif kind == 4:
            marks = ["table"] + chosen + [":"]
            for number in range(rng.randint(1, 3)):
                marks += ([","] if number else []) + [mark for _ in chosen for mark in value()]
        elif kind == 5:
            marks = [rng.choice(("unlike", "round"))] + chosen
        elif kind == 6:
            marks = ["bench"] + [mark for name in chosen for mark in (",", name, str(rng.randint(1, 3)))][1:]
        else:
            most = rng.randint(1, 3)
            marks = ["room", str(most), ":"] + [mark for name in chosen for mark in (
                ",", name, str(rng.randint(1, 3)), str(rng.randint(1, most)))][1:]
        if is_wish_line(marks):
            return marks


def written(rng, marks):
    """Marks as a text with blanks here and there."""
    text = ""
    for mark in marks:
        joined = not text or not (text[-1].isalnum() and mark[0].isalnum()) and mark[0] not in "=/" and text[-1] != "/"
        text += ("" if joined and rng.random() < 0.5 else " " * rng.randint(1, 2)) + mark
    return text


class AgainstPatternsTest(unittest.TestCase):
    def test_points_keep_what_is_written(self):
        """A point keeps the task exactly if all lines hold at it as they are written."""
        rng = generator(140)
        kept = 0
        for _ in range(400):
            lines = [some_line(rng, NAMES) for _ in range(rng.randint(1, 3))]
            ranges = [(low, low + rng.randint(0, 2)) for low in [rng.randint(-1, 1) for _ in NAMES]]
            parts = [written(rng, line) for line in lines]
            parts += [f"unknown {name} {low} {high}" for name, (low, high) in zip(NAMES, ranges)]
            rng.shuffle(parts)
            text = "\n".join(["least " + " + ".join(rng.sample(NAMES, 3))] + parts)
            self.assertTrue(is_task_text(text), text)
            task = read_task(text)
            for point in points_of(ranges):
                values = dict(zip(NAMES, point))
                wanted = all(line_holds(marks, values) for marks in lines)
                self.assertEqual(holds_all(task, point), wanted, (text, point))
                kept += wanted
        self.assertGreater(kept, 100)

    def test_first_marks_that_are_refused(self):
        """Lines with a changed mark: what is read is a line; behind a refused mark no known end makes one."""
        rng = generator(150)
        lines = [some_line(rng, NAMES) for _ in range(500)]
        ends = {tuple(line[at:]) for line in lines for at in range(len(line) + 1)}
        ends = sorted(end for end in ends if len(end) <= 10)
        ends = rng.sample(ends, min(len(ends), 800))
        for more in ((), ("+",), (">=",), ("+", "x", ">="), ("x", ">=")):
            for rest in (("x",), ("+", "x", "+", "y"), ("x", "+", "y"), ("1",), ("+", "x"), ("+", "y")):
                for then in ((), ("then", "x", ">=", "1"), ("or", "x", ">=", "1")):
                    ends.append(more + rest + then)
        ends += [(), (">=", "x", "+", "y"), ("then", "x", ">=", "1"), ("x", "y", "z"), ("x", "1", ",", "y", "1"),
                 ("1", ":", "x", "1", "1", ",", "y", "1", "1"), (":", "x", "1", "1", ",", "y", "1", "1")]
        others = ["x", "y", "z", "w", "0", "1", "2", "4", "1/2", "01", "+", "-", ">=", "<=", "=", ":", ",", "or", "and",
                  "then", "if", "unlike", "table", "bench", "room", "round", ";"]
        read = refused = 0
        for _ in range(250):
            marks = list(rng.choice(lines))
            at = rng.randrange(len(marks))
            marks[at:at + rng.randint(0, 1)] = [rng.choice(others)]
            names = NAMES[:rng.choice((1, 2, 3, 3))]
            text = " ".join(marks)
            fails = error_of(read_wishes, names, text)
            self.assertEqual(fails is None, is_wish_line(marks, names), (names, text))
            if fails is None:
                read += 1
                continue
            starts = [len(" ".join(marks[:number])) + (number > 0) for number in range(len(marks))] + [len(text)]
            self.assertIn(fails[1], starts)
            number = starts.index(fails[1])
            # What stands ahead of the mark goes on somehow, with the mark it does not.
            self.assertTrue(is_task_text(completed("least 0\n" + " ".join(marks[:number]))))
            if number < len(marks):
                refused += 1
                self.assertFalse(any(is_wish_line(marks[:number + 1] + list(end), names) for end in ends), text)
        self.assertGreater(read, 5)
        self.assertGreater(refused, 100)


if __name__ == "__main__":
    unittest.main()
