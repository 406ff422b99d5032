"""Points 75, 76 and 79: benches."""

import itertools
import unittest

from paperbest.benches import bench_draws, job_windows, least_bench_end, starts_in_sequence
from paperbest.errors import Refused
from paperbest.tasks import Task
from tests.tools import changed, generator, holds, made_box, points_of, size, some_names, triples

BIG = 10 ** 6


def task_of(wish, many=None, before=()):
    """A task with this wish as its last one."""
    many = max(job[0] for job in wish[1]) + 1 if many is None else many
    unknowns = tuple((name, -9, 9) for name in some_names(many))
    return Task(unknowns, tuple(before) + (wish,), (0,) * many)


def some_jobs_wish(rng, kind, jobs=4, longest=4):
    """Some bench or room, and how many unknowns its task has."""
    many = rng.randint(2, jobs)
    places = sorted(rng.sample(range(many + 1), many))
    if kind == "bench":
        return ("bench", tuple((place, rng.randint(1, longest)) for place in places)), many + 1
    most = rng.randint(1, 4)
    jobs = tuple((place, rng.randint(1, longest), rng.randint(1, most)) for place in places)
    return ("room", jobs, most), many + 1


def leaf_holds(task, box, leaf):
    """Whether a late, load or full leaf holds, as point 28 says it."""
    wish = task.wishes[leaf[1]]
    jobs, most = triples(wish), size(wish)
    low, high = [box[job[0]][0] for job in jobs], [box[job[0]][1] for job in jobs]
    if leaf[0] == "late":
        _, _, i, j = leaf
        return (0 <= i < j < len(jobs) and jobs[i][2] + jobs[j][2] > most
                and low[i] + jobs[i][1] > high[j] and low[j] + jobs[j][1] > high[i])
    lot = leaf[2]
    if not isinstance(lot, tuple) or list(lot) != sorted(set(lot)) or not set(lot) <= set(range(len(jobs))):
        return False
    if leaf[0] == "load":
        _, _, _, a, b = leaf
        return (a <= b and all(low[i] >= a and high[i] + jobs[i][1] <= b for i in lot)
                and sum(jobs[i][1] * jobs[i][2] for i in lot) > most * (b - a))
    if leaf[0] == "full":
        t = leaf[3]
        return (wish[0] == "room" and all(high[i] <= t < low[i] + jobs[i][1] for i in lot)
                and sum(jobs[i][2] for i in lot) > most)
    return False


def shuts(wish, k, task, box):
    """Whether any leaf shuts the box, by trying all lots of jobs."""
    jobs = triples(wish)
    for i, j in itertools.combinations(range(len(jobs)), 2):
        if leaf_holds(task, box, ("late", k, i, j)):
            return True
    for many in range(1, len(jobs) + 1):
        for lot in itertools.combinations(range(len(jobs)), many):
            a = min(box[jobs[i][0]][0] for i in lot)
            b = max(box[jobs[i][0]][1] + jobs[i][1] for i in lot)
            if leaf_holds(task, box, ("load", k, lot, a, b)):
                return True
            for t in {box[jobs[i][0]][1] for i in lot}:
                if leaf_holds(task, box, ("full", k, lot, t)):
                    return True
    return False


def plain_ends(wish, k, task, box):
    """For each job its unknown, and the least and the greatest start that leaves show, by trying all ends."""
    ends = []
    for job in wish[1]:
        at = job[0]
        least, most = low, high = box[at]
        for value in range(low + 1, high + 1):
            if shuts(wish, k, task, changed(box, at, (low, value - 1))):
                least = value
        for value in range(high - 1, low - 1, -1):
            if shuts(wish, k, task, changed(box, at, (value + 1, high))):
                most = value
        ends.append((at, least, most))
    return ends


def plain_draws(wish, k, task, box):
    """The first three items of the draws, by trying all ends; None if a leaf shuts the box."""
    if shuts(wish, k, task, box):
        return None
    draws = []
    for at, least, most in plain_ends(wish, k, task, box):
        low, high = box[at]
        if least > low:
            draws.append((at, 0, least))
        if least <= most < high:
            draws.append((at, 1, most))
    return draws


def check_draws(test, drawer, task, box, k):
    """Compare what a drawer tells with what trying tells; returns what it told."""
    wish = task.wishes[k]
    told = drawer(task, k, box)
    test.assertIsInstance(told, tuple)
    plain = plain_draws(wish, k, task, box)
    if plain is None:
        test.assertEqual((told[0], len(told)), ("leaf", 2), (wish, box))
        test.assertEqual(told[1][1], k)
        test.assertTrue(leaf_holds(task, box, told[1]), (wish, box, told))
        return told
    test.assertEqual([draw[:3] for draw in told], plain, (wish, box))
    left = box
    for at, side, end, leaf in told:
        low, high = left[at]
        if side == 0:
            test.assertTrue(low < end <= high)
            out, left = changed(left, at, (low, end - 1)), changed(left, at, (end, high))
        else:
            test.assertTrue(low <= end < high)
            out, left = changed(left, at, (end + 1, high)), changed(left, at, (low, end))
        test.assertTrue(leaf_holds(task, out, leaf), (wish, box, told))
    return told


class WindowsTest(unittest.TestCase):
    def test_windows(self):
        bench, room = ("bench", ((0, 2), (2, 5))), ("room", ((1, 3, 2), (2, 1, 4)), 4)
        task = task_of(room, 3, (bench,))
        box = ((1, 4), (-3, 3), (7, 7))
        self.assertEqual(job_windows(task, 0, box), ((1, 4, 2, 1), (7, 7, 5, 1)))
        self.assertEqual(job_windows(task=task, k=1, box=box), ((-3, 3, 3, 2), (7, 7, 1, 4)))

    def test_a_leaf_shuts_each_box_within(self):
        rng = generator(75)
        found = 0
        for _ in range(400):
            wish, many = some_jobs_wish(rng, rng.choice(("bench", "room")))
            task, box = task_of(wish, many), made_box(rng, many, 0, 3, 3)
            if shuts(wish, 0, task, box):
                found += 1
                inner = tuple((rng.randint(low, high),) * 2 for low, high in box)
                self.assertTrue(shuts(wish, 0, task, inner))
        self.assertGreater(found, 20)

    def test_one_start_for_each_job(self):
        rng = generator(76)
        for _ in range(400):
            wish, many = some_jobs_wish(rng, "bench")
            task = task_of(wish, many)
            point = tuple(rng.randint(0, 7) for _ in range(many))
            told = bench_draws(task, 0, tuple((at, at) for at in point))
            self.assertEqual(told == (), holds(wish, point))
            self.assertIn(told[:1], ((), ("leaf",)))


class DrawsTest(unittest.TestCase):
    def test_examples_of_edges(self):
        task = task_of(("bench", ((0, 2), (1, 3))))
        # Jobs that end just when the other one starts are no late pair.
        self.assertEqual(bench_draws(task, 0, ((0, 0), (2, 2))), ())
        self.assertEqual(bench_draws(task, 0, ((0, 0), (1, 1)))[0], "leaf")
        self.assertEqual([draw[:3] for draw in bench_draws(task, 0, ((0, 0), (0, 9)))], [(1, 0, 2)])
        self.assertEqual([draw[:3] for draw in bench_draws(task, 0, ((0, 9), (9, 9)))], [(0, 1, 7)])
        self.assertEqual(bench_draws(task=task, k=0, box=((0, 9), (0, 9))), ())

    def test_against_trying(self):
        rng = generator(77)
        drawn = leaves = 0
        for _ in range(1500):
            wish, many = some_jobs_wish(rng, "bench")
            before = (("sum", (1,) + (0,) * (many - 1), False, 0),) * rng.randint(0, 2)
            task = task_of(wish, many, before)
            box = made_box(rng, many, 0, rng.randint(1, 8), rng.randint(0, 7))
            told = check_draws(self, bench_draws, task, box, len(before))
            leaves += told[:1] == ("leaf",)
            drawn += told[:1] not in ((), ("leaf",))
        self.assertGreater(min(drawn, leaves), 150)

    def test_no_kept_point_is_lost(self):
        rng = generator(78)
        for _ in range(300):
            wish, many = some_jobs_wish(rng, "bench", 3, 3)
            task, box = task_of(wish, many), made_box(rng, many, 0, 3, 3)
            kept = [point for point in points_of(box) if holds(wish, point)]
            told = bench_draws(task, 0, box)
            if told[:1] == ("leaf",):
                self.assertEqual(kept, [])
                continue
            for at, side, end, _ in told:
                self.assertTrue(all(point[at] >= end if side == 0 else point[at] <= end for point in kept))

    def test_left_out_if_crossed(self):
        rng = generator(79)
        found = 0
        for _ in range(3000):
            wish, many = some_jobs_wish(rng, "bench")
            task, box = task_of(wish, many), made_box(rng, many, 0, 4, 5)
            if shuts(wish, 0, task, box):
                continue
            for at, least, most in plain_ends(wish, 0, task, box):
                if most < least:
                    found += 1
                    told = bench_draws(task, 0, box)
                    self.assertEqual([draw[1] for draw in told if draw[0] == at], [0])
        self.assertGreater(found, 0)

    def test_sentence_on_lengths(self):
        # Others within 0 to 9 need 7 of it, the last job 3: it cannot be among them.
        task = task_of(("bench", ((0, 3), (1, 4), (2, 3))))
        told = bench_draws(task, 0, ((0, 6), (0, 5), (0, 20)))
        self.assertEqual([draw[:3] for draw in told], [(2, 0, 7)])
        self.assertEqual(told[0][3][0], "load")

    def test_limits(self):
        jobs = tuple((at, BIG) for at in range(40))
        task = Task(tuple((name, -BIG, BIG) for name in some_names(40)), (("bench", jobs),), (0,) * 40)
        self.assertEqual(bench_draws(task, 0, ((-BIG, BIG),) * 40)[0], "leaf")
        box = tuple((at * BIG, at * BIG + 5) for at in range(40))
        told = bench_draws(task, 0, box)
        self.assertEqual(told, ())
        tight = tuple((at * BIG, at * BIG) for at in range(39)) + ((0, 60 * BIG),)
        self.assertEqual([draw[:3] for draw in bench_draws(task, 0, tight)], [(39, 0, 39 * BIG)])


class EndsTest(unittest.TestCase):
    def test_sequence(self):
        task = task_of(("bench", ((0, 2), (1, 3), (3, 1))), 4)
        box = ((0, 9), (4, 9), (-9, 9), (-2, 9))
        self.assertEqual(starts_in_sequence(task, 0, box, (0, 1, 2)), (0, 4, 7))
        self.assertEqual(starts_in_sequence(task, 0, box, (2, 0, 1)), (0, 4, -2))
        self.assertEqual(starts_in_sequence(task=task, k=0, box=box, sequence=(1, 0, 2)), (7, 4, 9))
        self.assertIsNone(starts_in_sequence(task, 0, ((0, 6), (4, 9), (0, 0), (-2, 9)), (1, 0, 2)))
        # Just in time.
        self.assertEqual(starts_in_sequence(task, 0, ((7, 7), (4, 4), (0, 0), (9, 9)), (1, 0, 2)), (7, 4, 9))

    def test_against_trying(self):
        rng = generator(80)
        none = 0
        for _ in range(300):
            wish, many = some_jobs_wish(rng, "bench", 3, 3)
            task, box = task_of(wish, many), made_box(rng, many, 0, 3, 4)
            small = tuple(box[job[0]] for job in wish[1])
            lengths = [job[1] for job in wish[1]]
            inner = ("bench", tuple(enumerate(lengths)))
            kept = [starts for starts in points_of(small) if holds(inner, starts)]
            for sequence in itertools.permutations(range(len(lengths))):
                fitting = [starts for starts in kept
                           if list(sequence) == sorted(sequence, key=lambda job: starts[job])]
                told = starts_in_sequence(task, 0, box, sequence)
                if not fitting:
                    self.assertIsNone(told)
                else:
                    self.assertEqual(told, tuple(min(column) for column in zip(*fitting)))
            ends = {starts: max(start + length for start, length in zip(starts, lengths)) for starts in kept}
            told = least_bench_end(task, 0, box)
            if not kept:
                none += 1
                self.assertIsNone(told)
            else:
                self.assertEqual(told[0], min(ends.values()))
                self.assertEqual(ends[told[1]], told[0])
        self.assertGreater(none, 5)

    def test_least_end_if_no_greatest_start_is_in_the_way(self):
        rng = generator(81)
        for _ in range(60):
            many = rng.randint(2, 10)
            wish = ("bench", tuple((at, rng.randint(1, 9)) for at in range(many)))
            task = task_of(wish)
            box = tuple((start, start + 1000) for start in [rng.randint(-9, 30) for _ in range(many)])
            end, starts = least_bench_end(task, 0, box)
            best = max(low + sum(length for at, length in wish[1] if box[at][0] >= low) for low, _ in box)
            self.assertEqual(end, best)
            self.assertTrue(holds(wish, starts))
            self.assertEqual(max(start + length for start, (_, length) in zip(starts, wish[1])), end)
            self.assertTrue(all(low <= start <= high for start, (low, high) in zip(starts, box)))

    def test_wide(self):
        for many in (10, 11, 40):
            wish = ("bench", tuple((at, 1) for at in range(many)))
            box = ((0, many - 1),) * many
            if many == 10:
                self.assertEqual(least_bench_end(task=task_of(wish), k=0, box=box)[0], 10)
                continue
            with self.assertRaises(Refused) as caught:
                least_bench_end(task_of(wish), 0, box)
            self.assertEqual(caught.exception.word, "wide")
            self.assertEqual(starts_in_sequence(task_of(wish), 0, box, tuple(range(many))), tuple(range(many)))


if __name__ == "__main__":
    unittest.main()
