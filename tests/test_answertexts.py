"""Point 17: texts of answers."""

import re
import unittest

from paperbest.answertexts import read_answer, show_answer
from paperbest.papers import Best, Nothing, Paper
from paperbest.printer import show_fraction
from paperbest.tasks import Task
from tests.test_reader import error_of
from tests.tools import generator, odd_values

TASK = Task((("x", 0, 9), ("y", 0, 9)), (), (3, 2))
# Names that are words of these texts, too.
WORDY = Task((("best", 0, 9), ("cut", 0, 9), ("low", 0, 9), ("row", 0, 9), ("split", 0, 9)), (), (0,) * 5)
HALF = ((("row", 0), (1, 2)),)
TREE = (
    "split", 0, 3, ("worth", ((("cut", 0), (2, 1)), (("low", 0), (1, 1)))),
    ("split", 1, -2, ("split", 1, -5, ("load", 1, (0, 2), 3, 9), ("full", 0, (4,), -7)), ("none", ())))
TEXT = ("best -6\nx = 0\ny = -3\ncut row 0 1/2\ncut\nsplit x 3\nworth cut 0 2, low x 1\nsplit y -2\nsplit y -5\n"
        "load 1 0 2: 3 9\nfull 0 4: -7\nnone")


def parts_of(answer):
    """All parts of an answer, with the name of its class."""
    own = (answer.point, answer.worth) if isinstance(answer, Best) else ()
    return (type(answer).__name__, own, answer.paper.cuts, answer.paper.tree)


def best(tree, cuts=()):
    return Best((0, 0), 0, Paper(cuts, tree))


def leaf_line(line, task=TASK):
    """The leaf of a text whose tree is one line."""
    return read_answer(task, "nothing\n" + line).paper.tree


class ShowTest(unittest.TestCase):
    def test_whole_text(self):
        answer = Best((0, -3), -6, Paper((HALF, ()), TREE))
        self.assertEqual(show_answer(task=TASK, answer=answer), TEXT)
        self.assertEqual(show_answer(TASK, Nothing(Paper((), ("out", 3)))), "nothing\nout 3")
        self.assertEqual(parts_of(read_answer(task=TASK, text=TEXT)), parts_of(answer))

    def test_leaves(self):
        for leaf, line in (
                (("worth", HALF + ((("low", 0), (3, 1)),)), "worth row 0 1/2, low x 3"), (("worth", ()), "worth"), (("none", ()), "none"),
                (("none", ((("high", 1), (-3, 7)), (("cut", 12), (1, 1)))), "none high y -3/7, cut 12 1"),
                (("none", HALF + HALF), "none row 0 1/2, row 0 1/2"),
                (("crowd", 2, (0, 1), 0, 1), "crowd 2 x y: 0 1"), (("crowd", 0, (1,), -5, -7), "crowd 0 y: -5 -7"),
                (("crowd", 2, (1, 0, 1), 0, 1), "crowd 2 y x y: 0 1"), (("out", 0), "out 0"), (("shut", 17), "shut 17"),
                (("late", 1, 0, 2), "late 1 0 2"), (("load", 1, (0, 2), 3, 9), "load 1 0 2: 3 9"),
                (("load", 1, (2, 0, 0), -3, 9), "load 1 2 0 0: -3 9"), (("full", 3, (5,), 0), "full 3 5: 0"),
                (("full", 3, (5, 6), -1), "full 3 5 6: -1"), (("ring", 4, (0, 1)), "ring 4 x y"), (("ring", 4, (1,)), "ring 4 y"),
                (("broken", 9), "broken 9")):
            self.assertEqual(show_answer(TASK, Nothing(Paper((), leaf))), "nothing\n" + line)
            self.assertEqual(leaf_line(line), leaf)

    def test_wordy_names(self):
        tree = ("split", 4, 2, ("ring", 0, (0, 1, 2, 3, 4)), ("none", ((("low", 2), (1, 1)), (("high", 3), (1, 1)))))
        answer = Best((1, 2, 3, 4, 5), 6, Paper((((("low", 1), (1, 2)),),), tree))
        text = show_answer(WORDY, answer)
        self.assertEqual(text, "best 6\nbest = 1\ncut = 2\nlow = 3\nrow = 4\nsplit = 5\ncut low cut 1/2\nsplit split 2\n"
                               "ring 0 best cut low row split\nnone low low 1, high row 1")
        self.assertEqual(parts_of(read_answer(WORDY, text)), parts_of(answer))

    def some_tree(self, rng, depth):
        def multipliers():
            return tuple(
                ((rng.choice(("low", "high")), rng.randrange(2)) if rng.random() < 0.5 else
                 (rng.choice(("row", "cut")), rng.randrange(30)), rng.choice(((1, 2), (-3, 1), (7, 5), (-2, 9))))
                for _ in range(rng.randint(0, 3)))

        def lot(many):
            return tuple(rng.randrange(many) for _ in range(rng.randint(1, 4)))

        if depth > 0 and rng.random() < 0.7:
            return ("split", rng.randrange(2), rng.randint(-9, 9), self.some_tree(rng, depth - 1), self.some_tree(rng, depth - 1))
        k, a, b = rng.randrange(60), rng.randint(-99, 99), rng.randint(-99, 99)
        return rng.choice((
            ("worth", multipliers()), ("none", multipliers()), ("crowd", k, lot(2), a, b), ("out", k), ("shut", k),
            ("late", k, abs(a), abs(b)), ("load", k, lot(40), a, b), ("full", k, lot(40), a), ("ring", k, lot(2)), ("broken", k)))

    def test_shown_again(self):
        rng = generator(170)
        for _ in range(400):
            tree = self.some_tree(rng, 5)
            cuts = tuple(self.some_tree(rng, 0)[1:2] for _ in range(rng.randint(0, 3)))
            cuts = tuple(cut[0] if isinstance(cut[0], tuple) else HALF for cut in cuts)
            answer = Nothing(Paper(cuts, tree)) if rng.random() < 0.5 else Best(
                (rng.randint(-9, 9), rng.randint(-9, 9)), rng.randint(-9, 9), Paper(cuts, tree))
            text = show_answer(TASK, answer)
            self.assertFalse(re.search("  |^ | $| ,| :", text, re.MULTILINE), text)
            self.assertEqual(parts_of(read_answer(TASK, text)), parts_of(answer))
            loose = text.replace("\n", " \n\n  ").replace(":", " : ").replace(",", " ,").replace(" -", "  - ")
            self.assertEqual(parts_of(read_answer(TASK, "\n" + loose + "\n\n")), parts_of(answer))

    def test_deep_trees(self):
        for sign in (0, 1):
            tree = ("out", 0)
            for k in range(2000):
                tree = ("split", 0, k, tree, ("out", 1)) if sign else ("split", 0, k, ("out", 1), tree)
            text = show_answer(TASK, best(tree))
            self.assertEqual(text.count("split"), 2000)
            told = read_answer(TASK, text).paper.tree
            for _ in range(2000):
                self.assertEqual((told[:3], told[4 if sign else 3]), (tree[:3], ("out", 1)))
                told, tree = told[3 if sign else 4], tree[3 if sign else 4]
            self.assertEqual(told, ("out", 0))

    def test_long_integers(self):
        big = int("9" * 4000)
        tree = ("split", 1, -big, ("crowd", big, (0,), -big, big), ("worth", ((("row", big), (-big, 2)), (("low", 0), (1, big)))))
        answer = Best((big, -big), -big, Paper((), tree))
        self.assertEqual(parts_of(read_answer(TASK, show_answer(TASK, answer))), parts_of(answer))


# Texts of answers with the line and the place of their errors.
REFUSED = (
    ("", 0, 0), ("\n ", 1, 1), ("worst 3", 0, 0), ("Best 3", 0, 0), ("best", 0, 4), ("best\n", 0, 4), ("best x", 0, 5), ("best 1/2", 0, 5),
    ("best 03", 0, 5), ("best 3 3", 0, 7), ("best 3", 0, 6), ("best 3\n", 1, 0), ("best 3\ny = 1", 1, 0), ("best 3\nx 1", 1, 2),
    ("best 3\nx = y", 1, 4), ("best 3\nx = 1/2", 1, 4), ("best 3\nx = 1 y", 1, 6), ("best 3\nx = 1\nx = 1", 2, 0),
    ("best 3\nx = 1\nout 1", 2, 0), ("best 3\nx = 1\ny = 2", 2, 5), ("best 3\nx = 1\ny = 2\nz = 3", 3, 0),
    ("best 3\nx = 1\ny = 2\nx = 3", 3, 0), ("best 3\nx = -\ny", 1, 5), ("nothing", 0, 7), ("nothing\n\n", 2, 0), ("nothing 3", 0, 8),
    ("nothing\nx = 1", 1, 0), ("nothing\nbest 3", 1, 0), ("nothing\ncut", 1, 3), ("nothing\ncut\n", 2, 0), ("nothing\ncut\ncut", 2, 3),
    ("nothing\nout 1\ncut", 2, 0), ("nothing\nout 1\nout 1", 2, 0), ("nothing\nout 1 out", 1, 6), ("nothing out 1", 0, 8),
    ("nothing\ncut out 1", 1, 4), ("nothing\ncut 1", 1, 4), ("nothing\ncut row", 1, 7), ("nothing\ncut row x", 1, 8),
    ("nothing\ncut row 0", 1, 9), ("nothing\ncut row 0 0", 1, 10), ("nothing\ncut row 0 0/3", 1, 10), ("nothing\ncut row 0 -0", 1, 11),
    ("nothing\ncut row 0 - 0/1", 1, 12), ("nothing\ncut row 0 +1", 1, 10), ("nothing\ncut row 0 x", 1, 10),
    ("nothing\ncut row 0 1/0", 1, 10), ("nothing\ncut row 0 01", 1, 10), ("nothing\ncut row 0 1/2 1", 1, 14),
    ("nothing\ncut row 0 1,\n", 1, 12), ("nothing\ncut row 0 1, 1", 1, 13), ("nothing\ncut row 0 1 low", 1, 12),
    ("nothing\ncut row -1 1", 1, 8), ("nothing\ncut row 1/2 1", 1, 8), ("nothing\ncut row 00 1", 1, 8), ("nothing\ncut low 0 1", 1, 8),
    ("nothing\ncut low z 1", 1, 8), ("nothing\ncut mid x 1", 1, 4), ("nothing\ncut , row 0 1", 1, 4), ("nothing\nworth low x --1", 1, 13),
    ("nothing\nsplit\nx", 1, 5), ("nothing\nsplit 0 3", 1, 6), ("nothing\nsplit z 3", 1, 6), ("nothing\nsplit x", 1, 7),
    ("nothing\nsplit x 1/2", 1, 8), ("nothing\nsplit x 3 4", 1, 10), ("nothing\nsplit x 3\nout 1", 2, 5),
    ("nothing\nsplit x 3\nout 1\nout 1\nout 1", 4, 0), ("nothing\nsplit x 3\nsplit x 2\nout 1\nout 1", 4, 5),
    ("nothing\nsplit x 3\ncut", 2, 0), ("nothing\nsplit x 3 out 1", 1, 10), ("nothing\nout", 1, 3), ("nothing\nout x", 1, 4),
    ("nothing\nout -1", 1, 4), ("nothing\nout 1/2", 1, 4), ("nothing\nout 1 2", 1, 6), ("nothing\nout 01", 1, 4), ("nothing\nhere", 1, 0),
    ("nothing\nshut 1:", 1, 6), ("nothing\nlate 1 0", 1, 8), ("nothing\nlate 1 0 -1", 1, 9), ("nothing\nlate 1 0 2 3", 1, 11),
    ("nothing\nlate 1 x", 1, 7), ("nothing\nload 1: 3 9", 1, 6), ("nothing\nload 1 0 2\n", 1, 10), ("nothing\nload 1 0 2 3 9", 1, 14),
    ("nothing\nload 1 x", 1, 7), ("nothing\nload 1 0 -1", 1, 9), ("nothing\nload 1 0 1/2", 1, 9), ("nothing\nload 1 0: 3", 1, 11),
    ("nothing\nload 1 0: 3 9 9", 1, 14), ("nothing\nload 1 0: x", 1, 10), ("nothing\nfull 1 0", 1, 8), ("nothing\nfull 1 0: 3 9", 1, 12),
    ("nothing\nfull 1:", 1, 6), ("nothing\ncrowd 2: 0 1", 1, 7), ("nothing\ncrowd x", 1, 6), ("nothing\ncrowd 2 0", 1, 8),
    ("nothing\ncrowd 2 x z", 1, 10), ("nothing\ncrowd 2 x, y", 1, 9), ("nothing\ncrowd 2 x: 1/2", 1, 11), ("nothing\ncrowd 2 x: 0", 1, 12),
    ("nothing\ncrowd 2 x 0 1", 1, 10), ("nothing\nring 4", 1, 6), ("nothing\nring 4\n", 1, 6), ("nothing\nring 4 x:", 1, 8),
    ("nothing\nring 4 x 1", 1, 9), ("nothing\nring x", 1, 5), ("nothing\nbroken", 1, 6), ("nothing\nbroken 1 x", 1, 9),
    ("nothing\nnone;", 1, 4), ("nothing\nworth 3", 1, 6), ("nothing\nworth x", 1, 6))


class ReadTest(unittest.TestCase):
    def test_refusals(self):
        for text, line, at in REFUSED:
            self.assertEqual(error_of(read_answer, TASK, text), (line, at), repr(text))
        for value in odd_values():
            wanted = (-1, -1)
            if isinstance(value, str):
                wanted = (1, 0) if value == "\n" else (0, 0)
            self.assertEqual(error_of(read_answer, TASK, value), wanted)

    def test_what_the_paper_says_does_not_matter(self):
        for text, tree in (("nothing\nbroken 999", ("broken", 999)), ("nothing\nsplit x 999999\nout 1\nout 1",
                                                                   ("split", 0, 999999, ("out", 1), ("out", 1))),
                           ("nothing\nworth row 5 -4/6, row 5 2/4", ("worth", ((("row", 5), (-2, 3)), (("row", 5), (1, 2))))),
                           ("nothing\nlate 3 7 7", ("late", 3, 7, 7)), ("nothing\nload 3 7 1: 5 -5", ("load", 3, (7, 1), 5, -5))):
            self.assertEqual(read_answer(TASK, text).paper.tree, tree)

    def test_beginnings(self):
        """Each beginning that ends with a whole mark is refused, if at all, only where it ends."""
        lines = TEXT.split("\n")
        for number, line in enumerate(lines):
            for at in range(len(line) + 1):
                if at < len(line) and not (line[at] in " :,\n"):
                    continue
                text = "\n".join(lines[:number] + [line[:at]])
                wanted = None if text == TEXT else (number, len(line[:at]))
                self.assertEqual(error_of(read_answer, TASK, text), wanted, text)

    def test_changed_marks(self):
        """Texts with one mark changed, which are recognized once more by patterns."""
        rng = generator(171)
        marks = re.findall(r"[a-z]+|[0-9]+(?:/[0-9]+)?|\n|[^ ]", TEXT)
        others = ["x", "y", "z", "0", "7", "-", "1/2", "0/2", ":", ",", "\n", "=", "row", "low", "cut", "worth", "out", "split", "ring"]
        read = refused = 0
        for _ in range(3000):
            at = rng.randrange(len(marks))
            changed = marks[:at] + [rng.choice(others)][:rng.randint(0, 1)] + marks[at + rng.randint(0, 1):]
            text = " ".join(changed)
            fails = error_of(read_answer, TASK, text)
            self.assertEqual(fails is None, is_answer_text(changed), text)
            read += fails is None
            refused += fails is not None
            if fails is not None:
                # What stands ahead of the refused mark is none of the fault, what stands behind it has no part in it.
                lines = text.split("\n")
                start = sum(len(line) + 1 for line in lines[:fails[0]]) + fails[1]
                self.assertEqual(error_of(read_answer, TASK, text[:start] + ";"), fails)
        self.assertGreater(min(read, refused), 200)


NUMBER = "(?:0|[1-9][0-9]*)"
VALUE = f"(?:- )?{NUMBER}"
TIMES = "(?:- )?(?:[1-9][0-9]*)(?:/[1-9][0-9]*)?"
PAIR = f"(?:row|cut) {NUMBER} {TIMES}|(?:low|high) [xy] {TIMES}"
PAIRS = f"(?: (?:{PAIR})(?: , (?:{PAIR}))*)?"
LEAF = (f"(?:worth|none){PAIRS}|crowd {NUMBER}(?: [xy])+ : {VALUE} {VALUE}|(?:out|shut|broken) {NUMBER}|late {NUMBER} {NUMBER} {NUMBER}|"
        f"load {NUMBER}(?: {NUMBER})+ : {VALUE} {VALUE}|full {NUMBER}(?: {NUMBER})+ : {VALUE}|ring {NUMBER}(?: [xy])+")


def is_answer_text(marks):
    """Whether marks are a text of an answer to the task."""
    lines = [line.strip() for line in " ".join(marks).split("\n") if line.strip()]
    if not lines:
        return False
    head = 1
    if re.fullmatch(f"best {VALUE}", lines[0]):
        head = 3
        if len(lines) < 3 or not all(re.fullmatch(f"{name} = {VALUE}", line) for name, line in zip("xy", lines[1:3])):
            return False
    elif lines[0] != "nothing":
        return False
    while head < len(lines) and re.fullmatch(f"cut{PAIRS}", lines[head]):
        head += 1
    waiting = 1
    for line in lines[head:]:
        if waiting == 0:
            return False
        if re.fullmatch(f"split [xy] {VALUE}", line):
            waiting += 1
        elif re.fullmatch(LEAF, line):
            waiting -= 1
        else:
            return False
    return waiting == 0


class FractionTest(unittest.TestCase):
    def test_fractions_are_those_of_the_printer(self):
        for value in ((1, 2), (-3, 2), (5, 1), (-7, 1)):
            self.assertEqual(leaf_line(f"none low x {show_fraction(value)}"), ("none", ((("low", 0), value),)))


if __name__ == "__main__":
    unittest.main()
