"""Points 95 to 97: lots to blame, excuses, and what they and wishes cost."""

import itertools
import unittest

from paperbest.blame import (
    all_blames, all_excuses, cheapest_excuse, has_point, is_to_blame, least_meets, only_wishes, reliefs, shrunk_blame,
    without_wishes)
from paperbest.errors import Refused
from paperbest.tasks import Task, with_wishes
from tests.tools import KINDS, Hostile, changed, generator, kept_points_of, odd_values, some_task, total

BIG = 10 ** 6
WISHES = (("sum", (1, 0), False, 2), ("sum", (-1, 0), False, -1), ("unlike", (0, 1)), ("sum", (1, -1), True, 0))
THREE = Task((("x", 0, 3), ("y", 0, 3)), WISHES, (0, 0))


def lots_of(many):
    return [lot for size in range(many + 1) for lot in itertools.combinations(range(many), size)]


def part(task, lot):
    return with_wishes(task, tuple(task.wishes[k] for k in lot))


def least_ones(lots):
    return tuple(sorted(lot for lot in lots if not any(set(other) < set(lot) for other in lots)))


def crowded_task(rng, most=6):
    """A task in which wishes often cannot be kept together."""
    task = some_task(rng, rng.randint(1, 3), KINDS, most, 3)
    return task


class BlameTest(unittest.TestCase):
    def test_example(self):
        self.assertEqual(all_blames(THREE), ((0, 1), (2, 3)))
        self.assertEqual(all_excuses(task=THREE), ((0, 2), (0, 3), (1, 2), (1, 3)))
        self.assertEqual(cheapest_excuse(THREE, (5, 1, None, 2)), (3, (1, 3)))

    def test_parts(self):
        self.assertEqual(only_wishes(task=THREE, lot=(0, 3)), with_wishes(THREE, (WISHES[0], WISHES[3])))
        self.assertEqual(without_wishes(task=THREE, lot=(0, 3)), with_wishes(THREE, WISHES[1:3]))
        self.assertEqual(only_wishes(THREE, ()), with_wishes(THREE, ()))
        self.assertEqual(without_wishes(THREE, (0, 1, 2, 3)), with_wishes(THREE, ()))
        self.assertEqual(only_wishes(THREE, (0, 1, 2, 3)), THREE)
        self.assertEqual(without_wishes(THREE, ()), THREE)

    def test_refused_lots(self):
        wrong = []
        for value in odd_values():
            if isinstance(value, tuple) and not any(isinstance(item, Hostile) for item in value) and value in ((), (0,), (1, 2)):
                continue
            wrong.append(value)
        wrong += [(1, 0), (0, 0), (4,), (-1,), (0, True), (0, 1, 2, 3, 4), [0, 1], (0, 1.0), (0, "1"), (Hostile(),)]
        for value in wrong:
            for call in (only_wishes, without_wishes, is_to_blame, shrunk_blame):
                with self.assertRaises(Refused) as caught:
                    call(THREE, value)
                self.assertEqual(caught.exception.word, "lot")

    def test_against_trying(self):
        rng = generator(950)
        blamed = several = 0
        for _ in range(250):
            task = crowded_task(rng)
            lots = lots_of(len(task.wishes))
            blame = [lot for lot in lots if not kept_points_of(part(task, lot))]
            self.assertEqual(has_point(task=task), lots[-1] not in blame)
            for lot in rng.sample(lots, min(6, len(lots))):
                self.assertIs(is_to_blame(task=task, lot=lot), lot in blame)
                shrunk = shrunk_blame(task=task, lot=lot)
                if lot not in blame:
                    self.assertIsNone(shrunk)
                    continue
                self.assertIn(shrunk, least_ones(blame))
                self.assertLessEqual(set(shrunk), set(lot))
            self.assertEqual(all_blames(task=task), least_ones(blame))
            excuses = least_ones([lot for lot in lots if tuple(sorted(set(lots[-1]) - set(lot))) not in blame])
            self.assertEqual(all_excuses(task), excuses)
            self.assertEqual((least_meets(all_blames(task)), least_meets(excuses)), (excuses, least_ones(blame)))
            blamed += bool(blame)
            several += len(least_ones(blame)) > 1
        self.assertGreater(blamed, 80)
        self.assertGreater(several, 30)

    def test_ten_wishes_and_eleven(self):
        ten = with_wishes(THREE, WISHES + (WISHES[2],) * 2 + (WISHES[0],) * 4)
        self.assertEqual(len(ten.wishes), 10)
        self.assertEqual(len(all_blames(ten)), 5 + 3)
        self.assertEqual(cheapest_excuse(ten, (1,) * 10)[0], 2)
        eleven = with_wishes(THREE, ten.wishes + (WISHES[0],))
        for call in (all_blames, all_excuses, lambda task: cheapest_excuse(task, (None,) * 11)):
            with self.assertRaises(Refused) as caught:
                call(eleven)
            self.assertEqual(caught.exception.word, "many")
        self.assertTrue(is_to_blame(eleven, tuple(range(11))))
        self.assertIn(shrunk_blame(eleven, tuple(range(11))), ((0, 1), (1, 6), (1, 7), (1, 8), (1, 9), (1, 10), (2, 3), (3, 4), (3, 5)))

    def test_least_meets(self):
        self.assertEqual(least_meets(lots=()), ((),))
        self.assertEqual(least_meets(((),)), ())
        self.assertEqual(least_meets(((0, 1), (), (2,))), ())
        self.assertEqual(least_meets(((3,), (3, 5))), ((3,),))
        self.assertEqual(least_meets(((0, 1), (0, 1))), ((0,), (1,)))
        self.assertEqual(least_meets(((70, 90), (BIG,))), ((70, BIG), (90, BIG)))
        rng = generator(951)
        for _ in range(200):
            lots = tuple(tuple(sorted(rng.sample(range(6), rng.randint(0 if rng.random() < 0.1 else 1, 4)))) for _ in range(rng.randint(0, 5)))
            meets = [lot for lot in lots_of(6) if all(set(lot) & set(other) for other in lots)]
            self.assertEqual(least_meets(lots), least_ones(meets))


class CostsTest(unittest.TestCase):
    def test_excuses(self):
        rng = generator(970)
        fixed_ones = 0
        for _ in range(250):
            task = crowded_task(rng, 5)
            lots = lots_of(len(task.wishes))
            costs = tuple(rng.choice((None, 0, 1, 2, 7, BIG)) for _ in task.wishes)
            fixed = tuple(k for k, cost in enumerate(costs) if cost is None)
            free = [lot for lot in lots if not set(lot) & set(fixed)
                    and kept_points_of(part(task, tuple(sorted(set(lots[-1]) - set(lot)))))]
            if not free:
                fixed_ones += 1
                with self.assertRaises(Refused) as caught:
                    cheapest_excuse(task=task, costs=costs)
                self.assertEqual(caught.exception.word, "fixed")
                continue
            cost, lot = cheapest_excuse(task=task, costs=costs)
            self.assertIn(lot, free)
            self.assertEqual(cost, sum(costs[k] for k in lot))
            self.assertEqual(cost, min(sum(costs[k] for k in other) for other in free))
            for blame in all_blames(task):
                self.assertGreaterEqual(cost, min(costs[k] for k in blame if costs[k] is not None))
        self.assertGreater(fixed_ones, 5)

    def test_refusals(self):
        many = with_wishes(THREE, WISHES * 3)
        for task, right in ((THREE, (5, 1, None, 2)), (many, (None,) * 12)):
            wrong = odd_values() + [right[:-1], right + (1,), list(right)]
            wrong += [changed(right, 1, value) for value in odd_values()
                      if value is not None and not (isinstance(value, int) and not isinstance(value, bool) and value >= 0)]
            for value in wrong:
                with self.assertRaises(Refused) as caught:
                    cheapest_excuse(task, value)
                self.assertEqual(caught.exception.word, "costs")
        with self.assertRaises(Refused) as caught:
            cheapest_excuse(THREE, (None, None, None, None))
        self.assertEqual(caught.exception.word, "fixed")
        self.assertEqual(cheapest_excuse(with_wishes(THREE, ()), ()), (0, ()))
        self.assertEqual(cheapest_excuse(with_wishes(THREE, WISHES[1:3]), (None, None)), (0, ()))
        self.assertEqual(cheapest_excuse(THREE, (0, 0, 0, 0))[0], 0)

    def test_reliefs(self):
        rng = generator(971)
        told = 0
        for _ in range(250):
            task = some_task(rng, rng.randint(1, 4), KINDS, 4, 3)
            kept = kept_points_of(task)
            if not kept:
                with self.assertRaises(Refused) as caught:
                    reliefs(task)
                self.assertEqual(caught.exception.word, "none")
                continue
            least = min(total(task.goal, point) for point in kept)
            wanted = []
            for k in range(len(task.wishes)):
                points = kept_points_of(with_wishes(task, task.wishes[:k] + task.wishes[k + 1:]))
                wanted.append(least - min(total(task.goal, point) for point in points))
            self.assertEqual(reliefs(task=task), tuple(wanted))
            told += any(wanted)
        self.assertGreater(told, 10)
        self.assertEqual(reliefs(Task((("x", 0, 3),), (), (1,))), ())


if __name__ == "__main__":
    unittest.main()
