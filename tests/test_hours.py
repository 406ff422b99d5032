"""Points 19 and 20: hours and seats."""

import unittest

from paperbest.errors import Refused
from paperbest.hours import load_between, peak, running, seats
from tests.tools import generator, holds, load, made_wish, moments_of, size, triples

BIG = 10 ** 6
BENCH = ("bench", ((0, 3), (2, 2)))
ROOM = ("room", ((0, 2, 2), (1, 4, 1), (3, 1, 3)), 4)


class HoursTest(unittest.TestCase):
    def test_running(self):
        self.assertEqual(running(wish=BENCH, point=(1, 9, 4), moment=1), (0,))
        self.assertEqual([running(BENCH, (1, 9, 4), moment) for moment in (0, 3, 4, 5, 6)], [(), (0,), (1,), (1,), ()])
        self.assertEqual(running(BENCH, (4, 9, 5), 5), (0, 1))
        self.assertEqual(running(ROOM, (-2, -3, 99, 0), -1), (0, 1))
        self.assertEqual(running(ROOM, (-2, -3, 99, 0), 0), (1, 2))

    def test_load_between(self):
        point = (1, 2, 99, 3)
        for first, last in ((1, 3), (-9, 99), (2, 3), (2, 4), (3, 3), (5, 2), (9, -9), (6, 9), (-5, 1)):
            wanted = sum(load(ROOM, point, moment) for moment in range(first, last))
            self.assertEqual(load_between(wish=ROOM, point=point, first=first, last=last), wanted)
        self.assertEqual(load_between(ROOM, point, 4, 4), 0)
        self.assertEqual(load_between(BENCH, (0, 0, 0), 0, 3), 5)
        wide = ("room", ((0, BIG, BIG), (1, BIG, BIG)), BIG)
        self.assertEqual(load_between(wide, (-BIG, 0), -2 * BIG, 2 * BIG), 2 * BIG ** 2)

    def test_peak(self):
        self.assertEqual(peak(wish=BENCH, point=(1, 0, 4)), (1, 1))
        self.assertEqual(peak(BENCH, (4, 0, 3)), (4, 2))
        self.assertEqual(peak(BENCH, (4, 0, 1)), (1, 1))
        # Where one job ends just when another one starts, the first moment counts.
        self.assertEqual(peak(("room", ((0, 2, 3), (1, 2, 3)), 3), (5, 3)), (3, 3))
        self.assertEqual(peak(ROOM, (0, 0, 0, 1)), (1, 6))

    def test_peak_and_loads_tell_whether_it_is_kept(self):
        rng = generator(190)
        kept = 0
        for _ in range(500):
            many = rng.randint(2, 4)
            wish = made_wish(rng, many, rng.choice(("bench", "room")))
            point = tuple(rng.randint(-3, 5) for _ in range(many))
            loads = [(-load(wish, point, moment), moment) for moment in moments_of(wish, point)]
            most, moment = min(loads)
            self.assertEqual(peak(wish, point), (moment, -most))
            self.assertEqual(holds(wish, point), -most <= size(wish))
            for at in moments_of(wish, point):
                self.assertEqual(running(wish, point, at), tuple(
                    job for job, (place, length, _) in enumerate(triples(wish))
                    if point[place] <= at < point[place] + length))
            spans = [(first, last) for first in range(-4, 9) for last in range(first, 9)]
            fits = [load_between(wish, point, first, last) <= size(wish) * (last - first) for first, last in spans]
            self.assertEqual(all(fits), holds(wish, point))
            kept += holds(wish, point)
        self.assertGreater(min(kept, 500 - kept), 50)


class SeatsTest(unittest.TestCase):
    def check(self, wish, point):
        told = seats(wish, point)
        if not holds(wish, point):
            self.assertIsNone(told)
            return False
        jobs = triples(wish)
        self.assertEqual(len(told), len(jobs))
        for lot, (place, length, need) in zip(told, jobs):
            self.assertIsInstance(lot, tuple)
            self.assertEqual(list(lot), sorted(set(lot)))
            self.assertEqual(len(lot), need)
            self.assertTrue(all(0 <= seat < size(wish) for seat in lot))
        for one in range(len(jobs)):
            for other in range(one):
                starts = [(point[jobs[job][0]], point[jobs[job][0]] + jobs[job][1]) for job in (one, other)]
                if starts[0][0] < starts[1][1] and starts[1][0] < starts[0][1]:
                    self.assertEqual(set(told[one]) & set(told[other]), set())
        return True

    def test_seats(self):
        self.assertEqual(seats(wish=BENCH, point=(1, 0, 4)), ((0,), (0,)))
        self.assertIsNone(seats(BENCH, (1, 0, 3)))
        self.assertTrue(self.check(ROOM, (0, 0, 0, 2)))
        self.assertFalse(self.check(ROOM, (0, 0, 0, 1)))
        rng = generator(200)
        kept = sum(self.check(made_wish(rng, many, rng.choice(("bench", "room"))),
                              tuple(rng.randint(-3, 6) for _ in range(many)))
                   for many in [rng.randint(2, 5) for _ in range(600)])
        self.assertGreater(min(kept, 600 - kept), 60)

    def test_sizes(self):
        for most in (999, 1000):
            wish = ("room", ((0, 2, most - 1), (1, 2, 1), (2, 2, most)), most)
            self.assertTrue(self.check(wish, (0, 1, 3)))
            self.assertFalse(self.check(wish, (0, 1, 2)))
        for most in (1001, BIG):
            # It is refused whether there are seats or not.
            for point in ((0, 1, 3), (0, 0, 0)):
                with self.assertRaises(Refused) as caught:
                    seats(("room", ((0, 2, 1), (1, 2, 1), (2, 2, most)), most), point)
                self.assertEqual(caught.exception.word, "size")

    def test_limits(self):
        wish = ("room", tuple((at, 999, 25) for at in range(40)), 1000)
        self.assertTrue(self.check(wish, tuple(range(-20, 20))))
        self.assertTrue(self.check(("bench", tuple((at, BIG) for at in range(40))), tuple(
            (at - 20) * BIG for at in range(40))))


if __name__ == "__main__":
    unittest.main()
