"""Points 90 to 92: listings of all points up to a worth."""

import unittest

from paperbest.checker import is_answer
from paperbest.errors import InvalidNumber, Refused
from paperbest.listings import Listing, above_worth, all_best, is_listing_for, listed, next_best, ranked
from paperbest.papers import Best, Nothing, Paper
from paperbest.tasks import Task, box_of, with_goal, with_wishes
from tests.tools import (
    KINDS, Hostile, generator, holds_all, kept_points_of, leaf_is_right, nodes_of, odd_values, plain_cut_rows, points_of,
    some_names, some_task, total)

BIG = 10 ** 6
TASK = Task((("x", 0, 3), ("y", 0, 3)), (("sum", (2, 2), False, 5), ("unlike", (0, 1))), (3, 2))


def listing_is_right(task, listing):
    """Whether a listing is right, as point 90 says it."""
    rows = plain_cut_rows(task, listing.paper.cuts)
    for box, node in nodes_of(box_of(task), listing.paper.tree):
        if node == ("here",):
            if any(low < high for low, high in box) or tuple(low for low, _ in box) not in listing.points:
                return False
        elif node[0] != "split" and not leaf_is_right(task, rows, box, node, listing.worth + 1):
            return False
    return list(listing.points) == sorted(set(listing.points)) and all(
        holds_all(task, point) and total(task.goal, point) <= listing.worth for point in listing.points)


def sorted_points(task):
    return sorted(kept_points_of(task), key=lambda point: (total(task.goal, point), point))


class ListingsTest(unittest.TestCase):
    def check(self, task, listing, worth):
        self.assertIsInstance(listing, Listing)
        self.assertEqual(listing.worth, worth)
        self.assertEqual(listing.points, tuple(point for point in kept_points_of(task) if total(task.goal, point) <= worth))
        self.assertTrue(is_listing_for(task=task, value=listing))
        self.assertTrue(listing_is_right(task, listing))

    def test_all_kinds(self):
        rng = generator(910)
        seen = {}
        for _ in range(350):
            task = some_task(rng, rng.randint(1, 4), KINDS, 4, 3)
            kept = sorted_points(task)
            worths = [total(task.goal, point) for point in kept] or [0]
            for worth in sorted({worths[0] - 1, worths[0], rng.choice(worths), worths[-1], worths[-1] + 9, -BIG, BIG}):
                wanted = [point for point in kept if total(task.goal, point) <= worth]
                self.check(task, listed(task=task, worth=worth), worth)
                self.check(task, listed(task, worth, most=len(wanted)), worth)
                seen[bool(kept), len(wanted) > 1, len(wanted) == len(kept)] = True
                if wanted:
                    for most in (0, len(wanted) - 1):
                        with self.assertRaises(Refused) as caught:
                            listed(task, worth, most=most)
                        self.assertEqual(caught.exception.word, "many")
            self.check_best(task, kept, worths[0])
            self.check_ranked(rng, task, kept)
        self.assertGreater(len(seen), 4)

    def check_best(self, task, kept, least):
        found = all_best(task=task)
        if not kept:
            self.assertIsInstance(found, Nothing)
            self.assertTrue(is_answer(task, found))
            self.assertIsInstance(all_best(task, most=0), Nothing)
            return
        self.check(task, found, least)
        best = [point for point in kept if total(task.goal, point) == least]
        self.check(task, all_best(task, most=len(best)), least)
        with self.assertRaises(Refused) as caught:
            all_best(task, most=len(best) - 1)
        self.assertEqual(caught.exception.word, "many")

    def check_ranked(self, rng, task, kept):
        for many in (0, 1, 2, rng.randint(3, 9), len(kept), 1000):
            points, shown = ranked(task=task, many=many)
            self.assertEqual(points, tuple(kept[:many]))
            if not kept:
                self.assertIsInstance(shown, Nothing)
                self.assertTrue(is_answer(task, shown))
                continue
            last = kept[min(many, len(kept)) - 1] if many else kept[0]
            self.check(task, shown, total(task.goal, last))

    def test_example(self):
        found = listed(TASK, 8)
        self.assertEqual((found.points, is_listing_for(TASK, found), all_best(TASK).points), (((0, 3), (1, 2), (2, 1)), True, ((0, 3),)))
        self.assertEqual((next_best(TASK, 6).worth, ranked(TASK, many=3)[0]), (7, ((0, 3), (1, 2), (2, 1))))

    def test_wrong_listings(self):
        found = listed(TASK, 8)
        points, paper = found.points, found.paper
        wrong = [(points[:-1], 8, paper), (points + ((3, 0),), 8, paper), (points[::-1], 8, paper), (points + points[-1:], 8, paper),
                 (list(points), 8, paper), (points, 9, paper), (points, 7, paper), (points, True, paper), (points, 8.0, paper),
                 (points, None, paper), (points, 8, None), (points, 8, (paper.cuts, paper.tree)), (points, 8, Paper(list(paper.cuts), paper.tree)),
                 (((0, 3), (1, 2), [2, 1]), 8, paper), (((0, 2), (0, 3), (1, 2), (2, 1)), 8, paper), ((), 8, paper), (None, 8, paper),
                 (points, 8, Paper(paper.cuts, ("here",))), (points, 8, Paper((((("low", 0), (1, 2)),),), paper.tree)),
                 (points, 8, Best((0, 3), 6, paper)), (points, 8, Paper(paper.cuts, ("split", 0, 3, paper.tree, paper.tree)))]
        for parts in wrong:
            self.assertIs(is_listing_for(TASK, Listing(*parts)), False, parts)
        self.assertTrue(is_listing_for(TASK, Listing(points=points, worth=8, paper=paper)))
        for value in odd_values():
            self.assertIs(is_listing_for(TASK, value), False)
            for at in range(3):
                parts = [points, 8, paper]
                parts[at] = value
                self.assertIs(is_listing_for(TASK, Listing(*parts)), False)
            for other in (Paper(value, paper.tree) if not (isinstance(value, tuple) and len(value) == 0) else None, Paper(paper.cuts, value),
                          Paper(paper.cuts, ("split", 0, 0, value, paper.tree)), Paper(paper.cuts, (value,)), Paper((value,), paper.tree)):
                self.assertIs(is_listing_for(TASK, Listing(points, 8, other)), False)
            self.assertIs(is_listing_for(TASK, Listing((value,), 8, paper)), False)
            self.assertIs(is_listing_for(TASK, Listing(((0, value),) + points[1:], 8, paper)), False)

    def test_here_leaves(self):
        task = Task((("x", 0, 1),), (), (1,))
        tree = ("split", 0, 0, ("here",), ("worth", ((("low", 0), (1, 1)),)))
        self.assertTrue(is_listing_for(task, Listing(((0,),), 0, Paper((), tree))))
        self.assertFalse(is_listing_for(task, Listing((), 0, Paper((), tree))))
        self.assertFalse(is_listing_for(task, Listing(((0,),), 1, Paper((), tree))))
        self.assertFalse(is_listing_for(task, Listing(((0,), (1,)), 1, Paper((), tree))))
        both = ("split", 0, 0, ("here",), ("here",))
        self.assertTrue(is_listing_for(task, Listing(((0,), (1,)), 1, Paper((), both))))
        for wrong in (("here", 0), ["here"], ("Here",), (Hostile(),), "here"):
            self.assertFalse(is_listing_for(task, Listing(((0,), (1,)), 1, Paper((), both[:3] + (wrong, ("here",))))))

    def test_deep_trees(self):
        task = Task((("x", 0, 900),), (), (1,))
        found = listed(task, 900)
        self.check(task, found, 900)
        tree = ("here",)
        for k in range(900):
            tree = ("split", 0, k, tree, ("here",))
        self.assertTrue(is_listing_for(task, Listing(found.points, 900, Paper((), tree))))


class ErrorsTest(unittest.TestCase):
    def refused(self, error, word, call, *args, **more):
        with self.assertRaises(error) as caught:
            call(*args, **more)
        self.assertEqual(caught.exception.word, word)

    def test_any_values(self):
        for value in odd_values():
            whole = isinstance(value, int) and not isinstance(value, bool)
            if not whole:
                self.refused(InvalidNumber, "worth", listed, TASK, value, most="x")
                self.refused(InvalidNumber, "worth", above_worth, TASK, value)
                self.refused(InvalidNumber, "worth", next_best, with_goal(TASK, (0, 0)), value)
            if not whole or not 0 <= value <= 1000:
                self.refused(InvalidNumber, "most", listed, TASK, 99, most=value)
                self.refused(InvalidNumber, "most", all_best, TASK, most=value)
                self.refused(InvalidNumber, "many", ranked, TASK, many=value)
        for value in (1001, -1):
            self.refused(InvalidNumber, "most", listed, TASK, 99, most=value)
            self.refused(InvalidNumber, "most", all_best, TASK, most=value)
            self.refused(InvalidNumber, "many", ranked, TASK, many=value)
        for call in (above_worth, next_best):
            self.refused(Refused, "goal", call, with_goal(TASK, (0, 0)), 3)

    def test_more_than_a_thousand_points(self):
        task = Task((("x", 0, 31), ("y", 0, 31)), (), (0, 0))
        self.refused(Refused, "many", listed, task, 0)
        self.refused(Refused, "many", all_best, task)
        for many in (0, 5, 1000):
            self.refused(Refused, "many", ranked, task, many=many)
        self.assertEqual(listed(task, -1).points, ())
        even = with_goal(task, (1, 40))
        self.assertEqual(len(ranked(even, many=1000)[1].points), 1000)
        self.assertEqual(ranked(with_goal(task, (1, 0)), many=33)[0][-1], (1, 0))


class NextTest(unittest.TestCase):
    def test_next_best(self):
        rng = generator(920)
        for _ in range(250):
            task = some_task(rng, rng.randint(1, 4), KINDS, 3, 3)
            if not any(task.goal):
                continue
            worths = sorted({total(task.goal, point) for point in kept_points_of(task)})
            for worth in {rng.randint(-20, 20), *worths[:2], *worths[-1:]}:
                above = above_worth(task=task, worth=worth)
                self.assertEqual(above, with_wishes(task, task.wishes + (("sum", task.goal, False, worth + 1),)))
                answer = next_best(task=task, worth=worth)
                self.assertTrue(is_answer(above, answer))
                greater = [value for value in worths if value > worth]
                self.assertEqual(answer.worth if greater else None, getattr(answer, "worth", None))
                if greater:
                    self.assertEqual(answer.worth, greater[0])

    def test_limits(self):
        task = Task(tuple((name, 0, BIG) for name in some_names(40)), (("sum", (BIG,) * 40, False, BIG),), tuple(range(1, 41)))
        points, listing = ranked(task, many=6)
        self.assertEqual([total(task.goal, point) for point in points], [1, 2, 2, 3, 3, 3])
        self.assertTrue(is_listing_for(task, listing))
        self.assertEqual(len(list(points_of(((0, 1),)))), 2)


if __name__ == "__main__":
    unittest.main()
