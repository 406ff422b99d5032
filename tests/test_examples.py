"""The examples of the document for the modules that have landed, word for word."""

import doctest
import pathlib
import unittest

README = pathlib.Path(__file__).resolve().parent.parent / "README.md"

ROWS = '''
    >>> from paperbest.rows import row_follows, row_of, tight_row
    >>> row_of(((1, 2), (-2, 3)), "<=", (1, 1)), tight_row(((-4, 6), True, 2)), tight_row(((2, 4), False, 3))
    (((-3, 4), False, -6), ((2, -3), True, -1), ((1, 2), False, 2))
    >>> row_follows(((2, 0), False, 1), ((3, 0), False, 3))
    True
'''

TASKS = '''
    >>> from paperbest.tasks import Task, moved, turned
    >>> task = Task((("x", 0, 9), ("y", 2, 7)), (("sum", (2, 2), False, 5), ("table", (1, 0), ((3, 4), (5, 0)))), (4, 0))
    >>> moved(task, "y", 3).wishes, turned(task, "x").unknowns[0]
    ((('sum', (2, 2), False, -1), ('table', (1, 0), ((0, 4), (2, 0)))), ('x', -9, 0))
'''

COUNTING = '''
    >>> from paperbest.counting import count_kept
    >>> count_kept(("unlike", (0, 1, 2)), ((0, 9), (0, 9), (5, 14)))
    810
    >>> count_kept(("bench", ((0, 3), (1, 4))), ((0, 10), (2, 8), (0, 1)))
    72
'''

STEPS = '''
    >>> from paperbest.steps import mend_place, place_beyond
    >>> from paperbest.tableau import Tableau
    >>> table = Tableau((((1, 1), False, 2), ((1, -1), True, 0)), ((0, 5), (0, 5)))
    >>> place_beyond(table), mend_place(table, 2, 0), table.basis, table.point()
    ((2, 0), 0, (0, 3), ((2, 1), (0, 1)))
    >>> table.entry(3, 1), mend_place(table, 3, 1), place_beyond(table), table.point()
    ((-2, 1), 1, None, ((1, 1), (1, 1)))
'''

SIMPLEX = '''
    >>> from paperbest.simplex import most_steps, point_or_sum, to_best
    >>> from paperbest.tableau import Tableau
    >>> table = Tableau((((2, 2), False, 5),), ((0, 9), (0, 9)))
    >>> point_or_sum(table), to_best(table, (3, 2)), table.point(), most_steps(table)
    (('point',), ((('low', 0), (1, 1)), (('row', 0), (1, 1))), ((0, 1), (5, 2)), 27)
'''

LACKS = '''
    >>> from paperbest.lacks import lack
    >>> lack(("round", (0, 1, 2, 3)), (1, 0, 3, 2)), lack(("room", ((0, 3, 2), (1, 2, 2)), 3), (0, 1))
    (2, 2)
'''

BENCHES = '''
    >>> from paperbest.benches import bench_draws, least_bench_end
    >>> from paperbest.tasks import Task
    >>> unknowns = (("a", 0, 9), ("b", 0, 9), ("c", 0, 9))
    >>> task = Task(unknowns, (("bench", ((0, 2), (1, 3), (2, 4))),), (0, 0, 0))
    >>> [draw[:3] for draw in bench_draws(task, 0, ((0, 4), (0, 4), (0, 9)))]
    [(2, 0, 5)]
    >>> bench_draws(task, 0, ((0, 1), (0, 1), (0, 9)))[0], least_bench_end(task, 0, ((0, 9), (4, 9), (0, 9)))[0]
    ('leaf', 9)
'''

READER = '''
    >>> from paperbest.printer import show_task
    >>> from paperbest.reader import read_task, read_wishes
    >>> text = "greatest x - 2 y\\n1 <= x + 1/2 y <= 5\\nroom 3: y 2 1, x 4 3\\nunknown x 0 9\\nunknown y -3 3"
    >>> show_task(read_task(text)).split("\\n")[:4]
    ['least -x + 2 y', '2 x + y >= 2', '-2 x - y >= -10', 'room 3: x 4 3, y 2 1']
    >>> read_wishes(("x", "y"), "if x >= 2 and x + y <= 1/2 then y >= 4")
    (('either', (('sum', (-1, 0), False, -1), ('sum', (2, 2), False, 2), ('sum', (0, 1), False, 4))),)
'''

PRICES = '''
    >>> from paperbest.prices import priced_draws
    >>> from paperbest.tasks import Task
    >>> task = Task((("x", 0, 9), ("y", 0, 9)), (("sum", (2, 2), False, 5),), (3, 2))
    >>> [draw[:3] for draw in priced_draws(task, (), ((0, 9), (0, 9)), 7)[0]]
    [(0, 1, 1)]
'''

PAPERS = '''
    >>> from paperbest.papers import Best, Paper, cut_row
    >>> from paperbest.tasks import Task
    >>> task, half = Task((("x", 0, 9), ("y", 0, 9)), (("sum", (2, 2), False, 5), ("unlike", (0, 1))), (3, 2)), ((("row", 0), (1, 2)),)
    >>> cut_row(task, (), half), cut_row(task, (), ((("row", 0), (1, 3)),)) is None
    (((1, 1), False, 3), True)
    >>> from paperbest.checker import first_fault, is_answer
    >>> leaf = ("worth", ((("cut", 0), (2, 1)), (("low", 0), (1, 1))))
    >>> is_answer(task, Best((0, 3), 6, Paper((half,), leaf))), first_fault(task, Best((1, 2), 7, Paper((half,), leaf)))
    (True, ('node', 0))
'''

CROWDS = '''
    >>> from paperbest.crowds import crowd_box, crowd_draws, crowd_leaf
    >>> from paperbest.tasks import Task
    >>> unknowns = (("x", 0, 5), ("y", 0, 5), ("z", 0, 5))
    >>> task = Task(unknowns, (("unlike", (0, 1, 2)), ("table", (2, 0), ((1, 4), (3, 0), (5, 5)))), (2, 1, 2))
    >>> crowd_leaf(task, 0, ((1, 2), (1, 2), (2, 2))), crowd_box(task, 0, ((1, 2), (1, 2), (1, 5)))
    (('crowd', 0, (0, 1, 2), 1, 2), ((1, 2), (1, 2), (3, 5)))
    >>> crowd_draws(task, 0, ((1, 2), (1, 2), (1, 5)))
    ((2, 0, 3, ('crowd', 0, (0, 1, 2), 1, 2)),)
    >>> from paperbest.cheapest import cheapest_unlike, is_cheapest
    >>> cheapest_unlike(task, 0, ((0, 1), (0, 5), (0, 1)))[0][1], is_cheapest(task, 0, ((0, 1), (0, 5), (0, 1)), ((0, 2, 1), ((0, 3), (1, 1))))
    (2, True)
'''

ROUNDING = '''
    >>> from paperbest.reader import read_task
    >>> from paperbest.rounding import best_threshold, threshold_points
    >>> task = read_task("least 2 x - y\\nx - y >= -1\\nunknown x 0 4\\nunknown y 0 4")
    >>> best_threshold(task, ((1, 2), (4, 3))), threshold_points(((1, 2), (4, 3)), (1, 1))
    ((0, 1), (((1, 3), (1, 2)), ((1, 2), (1, 1)), ((1, 1), (0, 1))))
'''

EITHERS = '''
    >>> from paperbest.eithers import either_box, either_draws, open_sums
    >>> from paperbest.tasks import Task
    >>> sums = (("sum", (2, 0), False, 5), ("sum", (1, 1), False, 9), ("sum", (-1, 0), False, 2))
    >>> task = Task((("x", 0, 4), ("y", 0, 6)), (("either", sums), ("sum", (1, 0), False, 0)), (1, 1))
    >>> open_sums(task, 0, ((0, 4), (0, 6))), either_box(task, 0, ((0, 4), (0, 6))), either_draws(task, 0, ((0, 4), (0, 3)))
    ((0, 1), ((3, 4), (0, 6)), ((0, 0, 3, ('shut', 0)),))
'''

RINGS = '''
    >>> from paperbest.tasks import Task
    >>> from paperbest.rings import next_places, round_draws, round_leaf, round_rests
    >>> task = Task((("a", 0, 2), ("b", 0, 2), ("c", 0, 2)), (("round", (0, 1, 2)),), (0, 0, 0))
    >>> next_places(task, 0, ((1, 9), (0, 2), (0, 2)), 0), round_leaf(task, 0, ((1, 1), (0, 0), (0, 2)))
    ((1, 2), ('ring', 0, (0, 1)))
    >>> round_draws(task, 0, ((0, 0), (0, 2), (0, 2)))[0], round_rests(task, 0, ((1, 1), (2, 2), (0, 0)))
    ('leaf', True)
    >>> from paperbest.tours import round_answer, round_count
    >>> round_answer(task, 0, ((0, 1), (0, 2), (0, 1))), round_answer(task, 0, ((0, 1), (0, 2), (1, 2)))[0]
    (('point', (1, 2, 0)), 'tree')
    >>> round_count(task, 0, ((0, 2), (0, 2), (0, 2))), round_count(task, 0, ((1, 9), (-4, 2), (0, 0)))
    (2, 1)
'''

CUTS = '''
    >>> from paperbest.cuts import cut_of, half_cut
    >>> from paperbest.tasks import Task
    >>> rows = (("sum", (2, 2), False, 5), ("unlike", (0, 1)), ("sum", (4, -1), False, 1))
    >>> task = Task((("x", 0, 9), ("y", 0, 9)), rows, (3, 2))
    >>> cut_of(task, (), {("row", 0): (1, 2), ("high", 0): (-2, 1)})
    (((('row', 0), (1, 2)),), ((1, 1), False, 3))
    >>> half_cut(task, (), ((5, 4), (5, 4)), (("row", 0),))
    (((('row', 0), (1, 2)),), ((1, 1), False, 3))
    >>> from paperbest.rounds import by_cuts, most_cuts, next_cut
    >>> next_cut(task, ())[2:], most_cuts(task), by_cuts(Task(task.unknowns, rows[:1] + rows[2:], (3, 2))).point
    ((((1, 0), False, 1), (6, 0, 0)), 4600, (1, 2))
'''

DRAWING = '''
    >>> from paperbest.drawing import drawn
    >>> from paperbest.tasks import Task
    >>> wishes = (("sum", (2, -3), False, 1), ("sum", (-1, 1), False, -2))
    >>> pair = Task((("x", 0, 9), ("y", 0, 3)), wishes, (1, 0))
    >>> drawn(pair, ((0, 9), (0, 3)), passes=9)[1]
    ((1, 5), (0, 3))
'''

SOLVER = '''
    >>> from paperbest.solver import answer_size, better_point, is_paper, most_leaves, solve
    >>> from paperbest.tasks import Task
    >>> sums = (("sum", (2, 2), False, 5), ("unlike", (0, 1)))
    >>> task = Task((("x", 0, 3), ("y", 0, 3)), sums, (3, 2))
    >>> answer = solve(task)
    >>> answer.point, answer.worth, solve(task, cutting=0, passes=0).worth
    ((0, 3), 6, 6)
    >>> better_point(task, 7)[0], better_point(task, 6)[0], is_paper(task, answer.paper, 6), is_paper(task, answer.paper, 7)
    ('point', 'paper', True, False)
    >>> from paperbest.listings import all_best, is_listing_for, listed, next_best, ranked
    >>> found = listed(task, 8)
    >>> found.points, is_listing_for(task, found), all_best(task).points
    (((0, 3), (1, 2), (2, 1)), True, ((0, 3),))
    >>> next_best(task, 6).worth, ranked(task, many=3)[0]
    (7, ((0, 3), (1, 2), (2, 1)))
'''

OVERVIEW = '''
    >>> from paperbest.reader import read_task
    >>> from paperbest.solver import solve
    >>> answer = solve(read_task("least 3 x + 2 y\\n2 x + 2 y >= 5\\nunlike x y\\nunknown x 0 9\\nunknown y 0 9"))
    >>> answer.worth, answer.point
    (6, (0, 3))
'''

TREE = '''
    >>> from paperbest.reader import read_task
    >>> from paperbest.tree import TreeSearch, best_points, search
    >>> task = read_task("least 3 x + 2 y\\n2 x + 2 y >= 5\\nunlike x y\\nunknown x 0 9\\nunknown y 0 9")
    >>> TreeSearch(task, passes=0).bound(), search(task, deep=True).worth, best_points(task, 9)
    (5, 6, ((0, 3),))
'''

LIVE = '''
    >>> from paperbest.live import Live
    >>> from paperbest.tasks import Task
    >>> task = Task((("x", 0, 3), ("y", 0, 3)), (("sum", (1, 1), False, 4), ("unlike", (0, 1))), (2, 1))
    >>> live = Live(task)
    >>> live.answer().point, live.put(("sum", (0, -1), False, -2)), live.answer().worth
    ((1, 3), 2, 7)
    >>> live.undo(), live.changes(), live.answer().worth
    (None, 0, 5)
    >>> from paperbest.blame import all_blames, all_excuses, cheapest_excuse
    >>> wishes = (("sum", (1, 0), False, 2), ("sum", (-1, 0), False, -1), ("unlike", (0, 1)), ("sum", (1, -1), True, 0))
    >>> three = Task((("x", 0, 3), ("y", 0, 3)), wishes, (0, 0))
    >>> all_blames(three), all_excuses(three)
    (((0, 1), (2, 3)), ((0, 2), (0, 3), (1, 2), (1, 3)))
    >>> cheapest_excuse(three, (5, 1, None, 2))
    (3, (1, 3))
'''

CLAIMS = '''
    >>> from paperbest.claims import follow_claim
    >>> from paperbest.tasks import Task
    >>> task = Task((("x", 0, 3), ("y", 0, 3)), (("sum", (1, -1), False, 1),), (1, 1))
    >>> follow_claim(task, ("unlike", (0, 1)))[0], follow_claim(task, ("sum", (1, 0), False, 2))[0]
    ('follows', 'apart')
    >>> from paperbest.runs import run
    >>> run("least x + y\\nx - y >= 1\\nunknown x 0 3\\nunknown y 0 3\\n: list 9\\n: put y >= 2\\n: try 3 1\\n: undo\\n: undo")
    ('best 1\\n1 0', 'wishes 1', 'broken 1', 'changes 0', 'refused undo')
'''

EXAMPLES = (ROWS, TASKS, COUNTING, STEPS, SIMPLEX, LACKS, BENCHES, READER, PRICES, PAPERS, CROWDS, ROUNDING, EITHERS, RINGS,
            CUTS, DRAWING, OVERVIEW, SOLVER, TREE, LIVE, CLAIMS)


class ExamplesTest(unittest.TestCase):
    def test_examples(self):
        for at, text in enumerate(EXAMPLES):
            example = doctest.DocTestParser().get_doctest(text, {}, f"example {at}", None, 0)
            self.assertTrue(example.examples)
            result = doctest.DocTestRunner(verbose=False).run(example)
            self.assertEqual(result.failed, 0)

    def test_readme(self):
        result = doctest.testfile(str(README), module_relative=False)
        self.assertEqual((result.failed, result.attempted > 0), (0, True))


if __name__ == "__main__":
    unittest.main()
