"""Point 12: marks."""

import itertools
import re
import unittest

from paperbest.lexer import marks_of

MARK = re.compile(r"[a-z]+|[0-9]+(?:/[0-9]+)?|>=|<=|\n|[^ ]", re.S)


def plain_marks(text):
    marks, line, start = [], 0, 0
    for found in MARK.finditer(text):
        marks.append((line, found.start() - start, found.group()))
        if found.group() == "\n":
            line, start = line + 1, found.end()
    return tuple(marks)


class LexerTest(unittest.TestCase):
    def check(self, text, words):
        self.assertEqual([mark for _, _, mark in marks_of(text)], words, text)

    def test_letters_and_digits(self):
        self.check("", [])
        self.check("   ", [])
        self.check("ab12cd", ["ab", "12", "cd"])
        self.check("aBc", ["a", "B", "c"])
        self.check("a b", ["a", "b"])
        self.check("007", ["007"])

    def test_strokes(self):
        self.check("1/2", ["1/2"])
        self.check("12/", ["12", "/"])
        self.check("12/x", ["12", "/", "x"])
        self.check("12 /3", ["12", "/", "3"])
        self.check("12/ 3", ["12", "/", "3"])
        self.check("1/2/3", ["1/2", "/", "3"])
        self.check("1//2", ["1", "/", "/", "2"])
        self.check("/2", ["/", "2"])
        self.check("1/\n2", ["1", "/", "\n", "2"])

    def test_signs(self):
        self.check(">=<=", [">=", "<="])
        self.check(">>=", [">", ">="])
        self.check("=>=", ["=", ">="])
        self.check("<=>", ["<=", ">"])
        self.check("> =", [">", "="])
        self.check("==", ["=", "="])
        self.check("><", [">", "<"])
        self.check("-3~", ["-", "3", "~"])
        self.check("<\n=", ["<", "\n", "="])

    def test_lines(self):
        self.assertEqual(marks_of("a 1\n\n b\n"), (
            (0, 0, "a"), (0, 2, "1"), (0, 3, "\n"), (1, 0, "\n"), (2, 1, "b"), (2, 2, "\n")))
        self.assertEqual(marks_of("\n"), ((0, 0, "\n"),))

    def test_every_sign(self):
        for code in range(ord(" "), ord("~") + 1):
            for text in (chr(code), chr(code) * 2, "a" + chr(code) + "a", "1" + chr(code) + "1", "\n" + chr(code)):
                self.assertEqual(marks_of(text), plain_marks(text), text)

    def test_short_texts(self):
        for text in itertools.product("a1/>=< \n-", repeat=5):
            self.assertEqual(marks_of("".join(text)), plain_marks("".join(text)))

    def test_long_runs(self):
        digits = "9" * 4000
        self.assertEqual(marks_of(text=digits + "/" + digits), ((0, 0, digits + "/" + digits),))


if __name__ == "__main__":
    unittest.main()
