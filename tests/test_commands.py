"""Points 101 and 103: commands and scripts."""

import unittest

from paperbest.commands import read_command, read_script
from paperbest.reader import read_task
from tests.test_reader import NAMES, TEXT, error_of
from tests.tools import odd_values

TASK = "least x + y\nx - y >= 1\nunknown x 0 3\nunknown y 0 3"
COMMANDS = (
    (": ask", ("ask",)), (":undo", ("undo",)), ("  :  blame ", ("blame",)), (": guess", ("guess",)),
    (": strike 2", ("strike", 2)), (": strike 0", ("strike", 0)), (": list 5", ("list", 5)), (": list 1000", ("list", 1000)),
    (": above -3", ("above", -3)), (": above 0", ("above", 0)), (": above - 7", ("above", -7)),
    (": reach x -1 5", ("reach", "x", -1, 5)), (": reach z 5 -1", ("reach", "z", 5, -1)), (":reach y 0 0", ("reach", "y", 0, 0)),
    (": try 3 -1 0", ("try", (3, -1, 0))), (": try -3 - 1 -0", ("try", (-3, -1, 0))),
    (": put x >= 1", ("put", (("sum", (1, 0, 0), False, 1),))),
    (": put 1 <= x <= y", ("put", (("sum", (1, 0, 0), False, 1), ("sum", (-1, 1, 0), False, 0)))),
    (": put unlike z y", ("put", (("unlike", (1, 2)),))),
    (": put table y: 3, 1", ("put", (("table", (1,), ((1,), (3,))),))),
    (": put if x >= 1 then y <= 1/2", ("put", (("either", (("sum", (-1, 0, 0), False, 0), ("sum", (0, -2, 0), False, -1))),))),
    (": aim least x - 2 z", ("aim", (1, 0, -2))), (": aim greatest x + x", ("aim", (-2, 0, 0))), (": aim least 0", ("aim", (0, 0, 0))))
WRONG = (
    "", " ", ":", "ask", ": Ask", ": asks", ": ask 1", ": ask :", ": : ask", ": undo undo", ": blame x", ": guess 0", ": strike",
    ": strike -1", ": strike 1/2", ": strike 1 2", ": strike 01", ": strike x", ": list", ": list -5", ": list 5 5", ": above",
    ": above 1/2", ": above 1 2", ": above - -3", ": above x", ": reach", ": reach x", ": reach x 1", ": reach x 1 2 3",
    ": reach w 1 2", ": reach 1 2", ": reach x 1/2 2", ": reach x y 1", ": try", ": try 1 2", ": try 1 2 3 4", ": try 1 2 x",
    ": try 1, 2, 3", ": try 1 2 1/2", ": put", ": put w >= 1", ": put x >= x", ": put unknown x 0 9", ": put x >= 1 or",
    ": put unlike x", ": put least x", ": put x >= 1 : ask", ": aim", ": aim x", ": aim least", ": aim least w",
    ": aim least 5", ": aim greatest 1/2 x", ": aim least x x", ": ask\n", "\n: ask", ": put x >= 1\n", "; ask", ": ask;",
    ": ask ask", ": move x", ": least x", "x >= 1", ": put\nx >= 1")


class ReadCommandTest(unittest.TestCase):
    def test_commands(self):
        for text, command in COMMANDS:
            self.assertEqual(read_command(names=NAMES, text=text), command, text)
        self.assertEqual(read_command(("x",), ": try -4"), ("try", (-4,)))
        digits = "8" * 4000
        self.assertEqual(read_command(("x",), f": above -{digits}"), ("above", -int(digits)))

    def test_refusals(self):
        for text in WRONG:
            self.assertEqual(error_of(read_command, NAMES, text), (0, 0), repr(text))
        # A wish of two names in a task of one.
        self.assertEqual(error_of(read_command, ("x",), ": put unlike x x"), (0, 0))
        for value in odd_values():
            wanted = (0, 0) if isinstance(value, str) else (-1, -1)
            self.assertEqual(error_of(read_command, NAMES, value), wanted)


class ReadScriptTest(unittest.TestCase):
    def test_example(self):
        task, commands = read_script(text=TASK + "\n: list 9\n: put y >= 2\n: try 3 1\n: undo\n: undo")
        self.assertEqual(task, read_task(TASK))
        self.assertEqual(commands, (("list", 9), ("put", (("sum", (0, 1), False, 2),)), ("try", (3, 1)), ("undo",), ("undo",)))

    def test_lines(self):
        self.assertEqual(read_script(TASK)[1], ())
        self.assertEqual(read_script(TASK + "\n\n  \n")[1], ())
        for text in (TASK + "\n: ask\n:undo", TASK + "\n\n: ask\n   \n\n  : undo\n\n", TASK + "\n   :ask\n:undo\n "):
            task, commands = read_script(text)
            self.assertEqual((task, commands), (read_task(TASK), (("ask",), ("undo",))), text)
        task, commands = read_script(TEXT + "".join(f"{line}\n" for line, _ in COMMANDS))
        self.assertEqual(task, read_task(TEXT))
        self.assertEqual(commands, tuple(command for _, command in COMMANDS))

    def test_task_errors(self):
        """They are those of the text of the task, ahead of those of the commands."""
        for text, line, at in (
                ("", 0, 0), (": ask", 0, 0), ("least x\n: ask", 0, 7), ("least x\n\n: ask\nnothing", 1, 0), ("least x;\n: ask", 0, 7),
                ("least x\nunknown x 0 9\nx >=\n: ask", 2, 4), ("least x\nunknown x 0 9 : ask\n: ask", 1, 14),
                (TASK + "\nx >= x\n: ask\n: asks", 4, 6), ("\n" + TASK + "\nunknown z 0\n: ask", 5, 11)):
            self.assertEqual(error_of(read_script, text), (line, at), text)
        for value in odd_values():
            if not isinstance(value, str):
                self.assertEqual(error_of(read_script, value), (-1, -1))

    def test_command_errors(self):
        for lines, number in (
                ((": asks",), 0), ((": ask", "ask"), 1), ((": ask", "x >= 1"), 1), ((": ask", "", ": ask", ": reach z 1 2"), 3),
                ((": ask", "unknown z 0 1"), 1), ((": try 1",), 0), ((": ask", "  ;", ": asks"), 1), ((": ask", "", ":"), 2)):
            text = TASK + "\n" + "\n".join(lines)
            self.assertEqual(error_of(read_script, text), (4 + number, 0), lines)
            self.assertEqual(error_of(read_script, "\n\n" + text + "\n"), (6 + number, 0), lines)


if __name__ == "__main__":
    unittest.main()
