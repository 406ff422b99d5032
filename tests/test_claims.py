"""Points 99 and 100: claims of all words, and questions that they answer."""

import unittest

from paperbest.cases import opposite_cases
from paperbest.claims import blame_claim, follow_claim, is_claim, same_claim, worth_claim
from paperbest.errors import InvalidNumber, Refused
from paperbest.listings import Listing, listed
from paperbest.papers import Best, Nothing, Paper
from paperbest.solver import is_paper, solve
from paperbest.tasks import Task, normal_task, with_goal, with_wishes
from tests.tools import (
    KINDS, Hostile, changed, generator, holds, kept_points_of, made_wish, odd_values, some_names, some_task, total)

BIG = 10 ** 6
TASK = Task((("x", 0, 3), ("y", 0, 3)), (("sum", (1, -1), False, 1),), (1, 1))
BLAMED = Task((("x", 0, 3), ("y", 0, 3)), (
    ("sum", (1, 0), False, 2), ("unlike", (0, 1)), ("sum", (-1, 0), False, -1), ("sum", (1, 1), False, 1)), (1, 2))


def some_claims():
    """A task and a right claim of each word."""
    answer = solve(TASK)
    wish, other = ("unlike", (0, 1)), with_wishes(TASK, (("sum", (2, -2), False, 1), ("unlike", (0, 1))))
    return (
        (TASK, ("kept", (2, 1))), (TASK, ("answer", answer)), (BLAMED, ("answer", solve(BLAMED))), (TASK, ("listing", listed(TASK, 3))),
        (TASK, worth_claim(TASK, 1)), (TASK, worth_claim(TASK, 2)), (BLAMED, blame_claim(BLAMED)), (TASK, follow_claim(TASK, wish)),
        (TASK, follow_claim(TASK, ("sum", (1, 0), False, 2))), (TASK, same_claim(TASK, other)),
        (TASK, same_claim(TASK, with_wishes(TASK, (wish,)))))


class ClaimsTest(unittest.TestCase):
    def test_each_word(self):
        words = [claim[0] for _, claim in some_claims()]
        self.assertEqual(words, ["kept", "answer", "answer", "listing", "least", "better", "blame", "follows", "apart", "same", "parted"])
        for task, claim in some_claims():
            self.assertIs(is_claim(task=task, value=claim), True)

    def test_spoilt_items(self):
        for task, claim in some_claims():
            for at in range(len(claim)):
                for value in odd_values() + ["kept", "here", Best((0, 0), 0, Paper((), ("none", ()))), Paper((), ("none", ()))]:
                    spoilt = changed(claim, at, value)
                    if at == 0 and isinstance(value, str) and value == claim[0]:
                        continue
                    if claim[0] == "better" and at == 1 and isinstance(value, int) and not isinstance(value, bool):
                        self.assertEqual(is_claim(task, spoilt), value > 1)
                        continue
                    if claim[0] == "least" and at == 1 and isinstance(value, int) and not isinstance(value, bool):
                        self.assertEqual(is_claim(task, spoilt), value <= 1)
                        continue
                    if claim[0] == "parted" and at == 2 and value.__class__ is tuple and value[0:1] != () and value[0].__class__ is int and value == (1, 2):
                        # This point too keeps the other task alone.
                        self.assertIs(is_claim(task, spoilt), True)
                        continue
                    self.assertIs(is_claim(task, spoilt), False, (claim, at, value))
            self.assertIs(is_claim(task, claim[:-1]), False)
            self.assertIs(is_claim(task, claim + (0,)), False)
            self.assertIs(is_claim(task, list(claim)), False)
            for word in ("kept", "answer", "listing", "least", "better", "blame", "follows", "apart", "same", "parted", "x", "", Hostile(), b"kept"):
                if word.__class__ is not str or word != claim[0]:
                    self.assertIs(is_claim(task, (word,) + claim[1:]), False)
        for value in odd_values():
            self.assertIs(is_claim(TASK, value), False)

    def test_kept_better_and_apart(self):
        for point, kept in (((1, 0), True), ((0, 0), False), ((4, 0), False), ((1, False), False), ((1,), False)):
            self.assertIs(is_claim(TASK, ("kept", point)), kept)
            self.assertIs(is_claim(TASK, ("better", 2, point)), kept)
            self.assertIs(is_claim(TASK, ("better", 1, point)), False)
            self.assertIs(is_claim(TASK, ("apart", ("sum", (1, 0), False, 2), point)), kept)
            self.assertIs(is_claim(TASK, ("apart", ("sum", (1, 0), False, 1), point)), False)
            self.assertIs(is_claim(TASK, ("parted", with_wishes(TASK, ()), point)), point == (0, 0))
        self.assertFalse(is_claim(TASK, ("apart", ("sum", (1,), False, 2), (1, 0))))
        self.assertTrue(is_claim(TASK, ("parted", with_goal(with_wishes(TASK, ()), (9, 9)), (0, 0))))
        other = Task((("x", 0, 3), ("z", 0, 3)), (), (1, 1))
        self.assertFalse(is_claim(TASK, ("parted", other, (0, 0))))

    def test_blame(self):
        word, lot, paper, points = blame_claim(BLAMED)
        self.assertEqual((word, lot), ("blame", (0, 2)))
        for spoilt in ((lot, paper, points[::-1]), (lot, paper, points[:1]), (lot, paper, points + points[:1]), ((0, 1, 2), paper, points),
                       ((0, 2, 3), paper, points + points[:1]), ((2, 0), paper, points), ((0, True), paper, points), ((), paper, ()),
                       (lot, Paper((), ("broken", 0)), points), (lot, paper, list(points)), (lot, paper, (points[0], None)), ((0, 9), paper, points),
                       (lot, solve(BLAMED).paper if solve(BLAMED).paper.tree != paper.tree else None, points)):
            self.assertFalse(is_claim(BLAMED, ("blame",) + spoilt), spoilt)

    def test_follows(self):
        word, wish, papers = follow_claim(TASK, ("unlike", (0, 1)))
        self.assertEqual((word, len(papers)), ("follows", 1))
        for spoilt in (papers + papers, (), list(papers), (None,), (Hostile(),), (Paper((), ("none", ())),)):
            self.assertFalse(is_claim(TASK, ("follows", wish, spoilt)))
        self.assertFalse(is_claim(TASK, ("follows", ("sum", (1, 0), False, 2), papers)))
        # If the cases are refused, no papers are right.
        long = Task(tuple((name, 0, 8) for name in some_names(9)), (("sum", (1,) + (0,) * 8, False, 9),), (0,) * 9)
        paper = solve(long).paper
        self.assertTrue(is_paper(long, paper, None))
        for many in (0, 1, 500):
            self.assertFalse(is_claim(long, ("follows", ("round", tuple(range(9))), (paper,) * many)))
        self.assertTrue(is_claim(long, ("follows", ("unlike", (0, 1)), (paper,))))
        other = with_wishes(long, (("round", tuple(range(9))),))
        self.assertFalse(is_claim(long, ("same", other, ((paper,),), ((paper,),))))

    def test_same(self):
        other = with_wishes(TASK, (("sum", (2, -2), False, 1), ("unlike", (0, 1))))
        word, _, there, back = same_claim(TASK, other)
        self.assertEqual((word, len(there), len(back)), ("same", 2, 1))
        for spoilt in ((other, there[:1], back), (other, there, ()), (other, there + there[:1], back), (other, list(there), back), (other, there, (None,)),
                       (other, (there[0], ()), back), (other, back, there), (with_goal(other, (5, 5)), there, there), (TASK, there, back),
                       (Task((("x", 0, 3), ("y", 0, 2)), other.wishes, (1, 1)), there, back)):
            self.assertFalse(is_claim(TASK, ("same",) + spoilt))
        self.assertTrue(is_claim(TASK, ("same", with_goal(other, (5, 5)), there, back)))
        empty = with_wishes(TASK, ())
        self.assertTrue(is_claim(empty, ("same", empty, (), ())))


class QuestionsTest(unittest.TestCase):
    def test_example(self):
        self.assertEqual((follow_claim(TASK, ("unlike", (0, 1)))[0], follow_claim(TASK, ("sum", (1, 0), False, 2))[0]), ("follows", "apart"))

    def test_follow_claims(self):
        rng = generator(1000)
        seen = {}
        for _ in range(500):
            task = some_task(rng, rng.randint(2, 4), KINDS, 3, 3)
            kind = rng.choice(KINDS)
            wish = made_wish(rng, len(task.goal), kind)
            claim = follow_claim(task=task, wish=wish)
            follows = all(holds(wish, point) for point in kept_points_of(task))
            self.assertEqual(claim[:2], ("follows" if follows else "apart", wish))
            self.assertTrue(is_claim(task, claim))
            if follows:
                self.assertEqual(len(claim[2]), len(opposite_cases(task, wish)))
            seen[kind, follows] = True
        self.assertEqual(len(seen), 14)

    def test_same_claims(self):
        rng = generator(1001)
        seen = {}
        for at in range(250):
            task = some_task(rng, rng.randint(2, 3), KINDS, 3, 3)
            other = with_wishes(task, tuple(made_wish(rng, len(task.goal), rng.choice(KINDS)) for _ in range(rng.randint(0, 2))))
            if at % 3 == 0:
                other = normal_task(task)
            claim = same_claim(task=task, other=other)
            same = kept_points_of(task) == kept_points_of(other)
            self.assertEqual(claim[:2], ("same" if same else "parted", other))
            self.assertTrue(is_claim(task, claim))
            seen[same] = seen.get(same, 0) + 1
        self.assertGreater(min(seen.values()), 60)

    def test_worth_and_blame_claims(self):
        rng = generator(1002)
        seen = {}
        for _ in range(300):
            task = some_task(rng, rng.randint(1, 4), KINDS, 5, 3)
            kept = kept_points_of(task)
            least = rng.randint(-9, 9)
            claim = worth_claim(task=task, least=least)
            better = [point for point in kept if total(task.goal, point) < least]
            self.assertEqual(claim[:2], ("better" if better else "least", least))
            self.assertTrue(is_claim(task, claim))
            blame = blame_claim(task=task)
            self.assertEqual(blame[0], "kept" if kept else "blame")
            self.assertTrue(is_claim(task, blame))
            if not kept:
                self.assertTrue(all(kept_points_of(with_wishes(task, tuple(
                    task.wishes[k] for k in blame[1] if k != number))) for number in blame[1]))
                self.assertEqual(kept_points_of(with_wishes(task, tuple(task.wishes[k] for k in blame[1]))), [])
            seen[claim[0], blame[0]] = True
        self.assertEqual(len(seen), 3)

    def test_errors(self):
        for value in odd_values() + [("sum", (0, 0), False, 1), ("unlike", (0, 2))]:
            with self.assertRaises(Refused) as caught:
                follow_claim(TASK, value)
            self.assertEqual(caught.exception.word, "wish")
            with self.assertRaises(Refused) as caught:
                same_claim(TASK, value)
            self.assertEqual(caught.exception.word, "unknowns")
            if not isinstance(value, int) or isinstance(value, bool):
                with self.assertRaises(InvalidNumber) as caught:
                    worth_claim(TASK, value)
                self.assertEqual(caught.exception.word, "worth")
        for other in (Task((("x", 0, 3), ("y", 0, 4)), (), (1, 1)), Task((("x", 0, 3),), (), (1,)), Task((("a", 0, 3), ("b", 0, 3)), (), (1, 1))):
            with self.assertRaises(Refused) as caught:
                same_claim(TASK, other)
            self.assertEqual(caught.exception.word, "unknowns")
        long = Task(tuple((name, 0, 8) for name in some_names(9)), (), (0,) * 9)
        with self.assertRaises(Refused) as caught:
            follow_claim(long, ("round", tuple(range(9))))
        self.assertEqual(caught.exception.word, "size")
        with self.assertRaises(Refused) as caught:
            same_claim(long, with_wishes(long, (("round", tuple(range(9))),)))
        self.assertEqual(caught.exception.word, "size")

    def test_kinds_of_answers(self):
        self.assertIsInstance(some_claims()[1][1][1], Best)
        self.assertIsInstance(some_claims()[2][1][1], Nothing)
        self.assertIsInstance(some_claims()[3][1][1], Listing)
        self.assertEqual(BIG, 1000000)


if __name__ == "__main__":
    unittest.main()
