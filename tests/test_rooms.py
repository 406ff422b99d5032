"""Points 77, 78 and 80, and 75 for rooms."""

import itertools
import unittest

from paperbest.benches import bench_draws
from paperbest.rooms import pieces_or_load, room_draws, running_needs, sure_needs
from paperbest.tasks import Task
from tests.test_benches import check_draws, leaf_holds, plain_ends, some_jobs_wish, task_of
from tests.tools import generator, holds, load, made_box, points_of, size, some_names, triples

BIG = 10 ** 6


class DrawsTest(unittest.TestCase):
    def test_edges(self):
        task = task_of(("room", ((0, 2, 2), (1, 3, 2)), 4))
        # Needs that are just the size fit together.
        self.assertEqual(room_draws(task=task, k=0, box=((0, 0), (0, 0))), ())
        task = task_of(("room", ((0, 2, 2), (1, 3, 3)), 4))
        self.assertEqual(room_draws(task, 0, ((0, 0), (0, 0)))[0], "leaf")
        self.assertEqual(room_draws(task, 0, ((0, 0), (2, 2))), ())
        self.assertEqual([draw[:3] for draw in room_draws(task, 0, ((0, 0), (0, 9)))], [(1, 0, 2)])

    def test_full_moments_draw(self):
        # Two of these fit together, three do not; no pair is apart.
        task = task_of(("room", ((0, 5, 1), (1, 5, 1), (2, 5, 1)), 2))
        told = room_draws(task, 0, ((0, 1), (0, 2), (0, 20)))
        self.assertEqual([draw[:3] for draw in told], [(2, 0, 5)])
        self.assertEqual(told[0][3][:3], ("full", 0, (0, 1, 2)))

    def test_the_greatest_full_moment_draws(self):
        task = task_of(("room", ((0, 5, 1), (1, 5, 1), (2, 4, 1), (3, 9, 2)), 3))
        told = check_draws(self, room_draws, task, ((0, 1), (0, 1), (0, 1), (0, 20)), 0)
        self.assertEqual([draw[:3] for draw in told], [(3, 0, 5)])

    def test_full_moments_against_trying(self):
        rng = generator(90)
        full = 0
        for _ in range(700):
            many, most = rng.randint(3, 5), rng.randint(2, 4)
            jobs = tuple((at, rng.randint(3, 6), rng.randint(1, max(1, most // 2))) for at in range(many))
            task = task_of(("room", jobs, most))
            box = list(made_box(rng, many, 0, 2, 2))
            box[rng.randrange(many)] = (0, rng.randint(3, 12))
            told = check_draws(self, room_draws, task, tuple(box), 0)
            full += told[:1] != ("leaf",) and any(draw[3][0] == "full" for draw in told)
        self.assertGreater(full, 50)

    def test_against_trying(self):
        rng = generator(82)
        words = []
        for _ in range(2500):
            wish, many = some_jobs_wish(rng, "room")
            before = (("sum", (1,) + (0,) * (many - 1), False, 0),) * rng.randint(0, 2)
            task = task_of(wish, many, before)
            box = made_box(rng, many, 0, rng.randint(1, 6), rng.randint(0, 6))
            told = check_draws(self, room_draws, task, box, len(before))
            words.extend([told[1][0]] if told[:1] == ("leaf",) else [draw[3][0] for draw in told])
        for word in ("late", "load", "full"):
            self.assertGreater(words.count(word), 30, word)

    def test_no_kept_point_is_lost(self):
        rng = generator(83)
        for _ in range(300):
            wish, many = some_jobs_wish(rng, "room", 3, 3)
            task, box = task_of(wish, many), made_box(rng, many, 0, 3, 3)
            kept = [point for point in points_of(box) if holds(wish, point)]
            told = room_draws(task, 0, box)
            if told[:1] == ("leaf",):
                self.assertEqual(kept, [])
                continue
            for at, side, end, _ in told:
                self.assertTrue(all(point[at] >= end if side == 0 else point[at] <= end for point in kept))

    def test_room_of_size_one_is_a_bench(self):
        rng = generator(84)
        for _ in range(500):
            wish, many = some_jobs_wish(rng, "bench", 5)
            room = ("room", tuple(job + (1,) for job in wish[1]), 1)
            box = made_box(rng, many, 0, 5, 5)
            bench_told, room_told = bench_draws(task_of(wish, many), 0, box), room_draws(task_of(room, many), 0, box)
            self.assertEqual([draw[:3] for draw in room_told] if room_told[:1] != ("leaf",) else "leaf",
                             [draw[:3] for draw in bench_told] if bench_told[:1] != ("leaf",) else "leaf")

    def test_time_runs_backwards(self):
        rng = generator(85)
        for _ in range(600):
            wish, many = some_jobs_wish(rng, rng.choice(("bench", "room")))
            drawer = bench_draws if wish[0] == "bench" else room_draws
            task, box = task_of(wish, many), made_box(rng, many, 0, 4, 5)
            lengths = {job[0]: job[1] for job in wish[1]}
            back = tuple((-high - lengths.get(at, 0), -low - lengths.get(at, 0)) for at, (low, high) in enumerate(box))
            told, told_back = drawer(task, 0, box), drawer(task, 0, back)
            self.assertEqual(told[:1] == ("leaf",), told_back[:1] == ("leaf",))
            if told[:1] == ("leaf",) or any(most < least for _, least, most in plain_ends(wish, 0, task, box)):
                continue
            turned = sorted((at, 1 - side, -end - lengths[at]) for at, side, end, _ in told_back)
            self.assertEqual(turned, [draw[:3] for draw in told])

    def test_one_start_for_each_job(self):
        rng = generator(86)
        for _ in range(600):
            wish, many = some_jobs_wish(rng, "room", 5)
            task = task_of(wish, many)
            point = tuple(rng.randint(0, 6) for _ in range(many))
            box = tuple((at, at) for at in point)
            self.assertEqual(room_draws(task, 0, box) == (), holds(wish, point))
            full = any(leaf_holds(task, box, ("full", 0, lot, t)) for t in point
                       for many in range(2, len(wish[1]) + 1)
                       for lot in itertools.combinations(range(len(wish[1])), many))
            self.assertEqual(full, not holds(wish, point))

    def test_limits(self):
        jobs = tuple((at, BIG, BIG) for at in range(40))
        task = Task(tuple((name, -BIG, BIG) for name in some_names(40)), (("room", jobs, BIG),), (0,) * 40)
        self.assertEqual(room_draws(task, 0, ((-BIG, BIG),) * 40)[0], "leaf")
        tight = tuple((at * BIG, at * BIG) for at in range(39)) + ((0, 60 * BIG),)
        self.assertEqual([draw[:3] for draw in room_draws(task, 0, tight)], [(39, 0, 39 * BIG)])


class PiecesTest(unittest.TestCase):
    def check(self, task, k, box):
        wish = task.wishes[k]
        jobs = triples(wish)
        told = pieces_or_load(task, k, box)
        windows = [(box[place][0], box[place][1] + length) for place, length, _ in jobs]
        work = [length * need for _, length, need in jobs]
        moments = sorted({at for window in windows for at in window})
        loaded = False
        for a, b in itertools.combinations(moments, 2):
            inner = sum(work[i] for i, (low, high) in enumerate(windows) if a <= low and high <= b)
            loaded = loaded or inner > size(wish) * (b - a)
        self.assertEqual(told[0], "leaf" if loaded else "pieces", (wish, box))
        self.assertEqual(len(told), 2)
        if loaded:
            self.assertEqual(told[1][:2], ("load", k))
            self.assertTrue(leaf_holds(task, box, told[1]))
            return told[0]
        pieces = told[1]
        self.assertEqual(list(pieces), sorted(pieces))
        spans = {piece[1:3] for piece in pieces}
        for one, other in itertools.combinations(spans, 2):
            self.assertTrue(one[1] <= other[0] or other[1] <= one[0])
        for job, start, end, units in pieces:
            self.assertTrue(units >= 1 and windows[job][0] <= start < end <= windows[job][1])
        for start, end in spans:
            used = sum(piece[3] for piece in pieces if piece[1:3] == (start, end))
            self.assertLessEqual(used, (end - start) * size(wish))
        for job, wanted in enumerate(work):
            self.assertEqual(sum(piece[3] for piece in pieces if piece[0] == job), wanted)
        return told[0]

    def test_rooms_and_benches(self):
        rng = generator(87)
        words = []
        for _ in range(1500):
            wish, many = some_jobs_wish(rng, rng.choice(("bench", "room")), 6)
            before = (("sum", (1,) + (0,) * (many - 1), False, 0),) * rng.randint(0, 1)
            task = task_of(wish, many, before)
            words.append(self.check(task, len(before), made_box(rng, many, 0, rng.randint(1, 6), 4)))
        self.assertGreater(min(words.count("leaf"), words.count("pieces")), 100)

    def test_just_full(self):
        task = task_of(("room", ((0, 2, 3), (1, 3, 2)), 3))
        self.assertEqual(self.check(task, 0, ((0, 2), (0, 1))), "pieces")
        self.assertEqual(self.check(task, 0, ((0, 1), (0, 0))), "leaf")
        self.assertEqual(pieces_or_load(task=task, k=0, box=((0, 0), (2, 2)))[1], ((0, 0, 2, 6), (1, 2, 5, 6)))

    def test_limits(self):
        jobs = tuple((at, BIG, BIG) for at in range(40))
        task = Task(tuple((name, -BIG, BIG) for name in some_names(40)), (("room", jobs, BIG),), (0,) * 40)
        self.assertEqual(self.check(task, 0, ((-BIG, BIG),) * 40), "leaf")
        self.assertEqual(self.check(task, 0, ((0, 39 * BIG),) * 40), "pieces")


class NeedsTest(unittest.TestCase):
    def plain(self, spans):
        moments = sorted({at for start, end, _ in spans for at in (start, end)})
        told, before = [], 0
        for moment in moments:
            needs = sum(need for start, end, need in spans if start <= moment < end)
            if needs != before:
                told.append((moment, needs))
            before = needs
        return tuple(told)

    def test_edges(self):
        task = task_of(("room", ((0, 2, 2), (1, 3, 2)), 3), before=(("bench", ((0, 2), (1, 3))),))
        self.assertEqual(running_needs(task, 1, (0, 2)), ((0, 2), (5, 0)))
        self.assertEqual(running_needs(task, 1, (0, 1)), ((0, 2), (1, 4), (2, 2), (4, 0)))
        self.assertEqual(running_needs(task=task, k=0, point=(0, 0)), ((0, 2), (2, 1), (3, 0)))
        self.assertEqual(sure_needs(task, 1, ((0, 1), (0, 3))), ((1, 2), (2, 0)))
        self.assertEqual(sure_needs(task, 1, ((0, 2), (0, 3))), ())
        self.assertEqual(sure_needs(task=task, k=0, box=((0, 0), (2, 3))), ((0, 1), (2, 0), (3, 1), (5, 0)))

    def test_against_moments(self):
        rng = generator(88)
        for _ in range(600):
            wish, many = some_jobs_wish(rng, rng.choice(("bench", "room")), 5)
            task, box = task_of(wish, many), made_box(rng, many, 0, 4, 4)
            point = tuple(rng.randint(low, high) for low, high in box)
            jobs = triples(wish)
            spans = [(point[place], point[place] + length, need) for place, length, need in jobs]
            self.assertEqual(running_needs(task, 0, point), self.plain(spans))
            self.assertEqual(
                all(needs <= size(wish) for _, needs in running_needs(task, 0, point)), holds(wish, point))
            sure = [(box[place][1], box[place][0] + length, need) for place, length, need in jobs
                    if box[place][1] < box[place][0] + length]
            self.assertEqual(sure_needs(task, 0, box), self.plain(sure))
            for (moment, needs), (after, _) in zip(sure_needs(task, 0, box), sure_needs(task, 0, box)[1:]):
                for at in range(moment, after):
                    self.assertGreaterEqual(load(wish, point, at), needs)


if __name__ == "__main__":
    unittest.main()
