"""The whole document once more: what one layer returns is taken by the next one, for wishes of all seven kinds."""

import unittest

from paperbest.answertexts import read_answer, show_answer
from paperbest.blame import all_blames, all_excuses, only_wishes, point_or_blame, reliefs
from paperbest.checker import is_answer, tree_fault
from paperbest.claims import blame_claim, follow_claim, is_claim, same_claim, worth_claim
from paperbest.commands import read_command
from paperbest.cuts import half_cuts, rounded_sums
from paperbest.drawing import drawn, rest_passes, shaved
from paperbest.duals import relaxed, tableau_of
from paperbest.guesses import guess
from paperbest.leaves import tree_after
from paperbest.listings import all_best, is_listing_for, listed
from paperbest.live import Live
from paperbest.moves import descent
from paperbest.near import nearest_kept
from paperbest.papers import Best, Nothing, Paper, cut_rows
from paperbest.points import broken, keeps
from paperbest.prices import exact_draws, priced_draws
from paperbest.printer import show_task, show_wish
from paperbest.reader import read_task, read_wishes
from paperbest.reasons import cuts_behind, is_draws, needed_draws, wishes_behind
from paperbest.rounding import nearest_point
from paperbest.rounds import rounds
from paperbest.runs import Session, run
from paperbest.shorter import shorter_answer
from paperbest.showing import is_shown, shown
from paperbest.simplex import point_or_sum, to_best
from paperbest.solver import answer_size, is_paper, most_leaves, solve
from paperbest.tasks import Task, box_of, moved, names_of, normal_task, renamed, turned, with_wishes
from paperbest.tree import TreeSearch, best_points, kept_points, search
from tests.tools import (
    KINDS, answer_is_right, generator, kept_points_of, made_wish, some_names, some_task, total)


def full_task(rng, many=4):
    """A task with a wish of each kind."""
    wishes = [made_wish(rng, many, kind) for kind in KINDS]
    rng.shuffle(wishes)
    unknowns = tuple((name, low, low + rng.randint(2, 4)) for name, low in zip(some_names(many), [rng.randint(-2, 1) for _ in range(many)]))
    return Task(unknowns, tuple(wishes), tuple(rng.randint(-3, 3) for _ in range(many)))


def mixed_tasks(seed, many):
    """Tasks of wishes of all kinds, some with points and some without."""
    rng = generator(seed)
    for at in range(many):
        yield rng, full_task(rng) if at % 4 == 0 else some_task(rng, rng.randint(2, 4), KINDS, 4, 4)


class LayersTest(unittest.TestCase):
    def test_texts_and_answers(self):
        for rng, task in mixed_tasks(10, 150):
            self.assertEqual(read_task(show_task(task)), task)
            for wish in task.wishes:
                self.assertEqual(read_wishes(names_of(task), show_wish(names_of(task), wish)), (wish,))
            kept = kept_points_of(task)
            best = min((total(task.goal, point) for point in kept), default=None)
            for answer in (solve(task), solve(task, passes=0, cutting=3, guessing=0, halving=1), search(task, deep=True),
                           solve(normal_task(task))):
                other = read_answer(task, show_answer(task, answer)) if is_answer(task, answer) else None
                if other is None:
                    # Numbers of wishes are others in the normal task.
                    self.assertTrue(is_answer(normal_task(task), answer))
                    self.assertEqual(getattr(answer, "worth", None), best)
                    continue
                self.assertEqual((other.paper.cuts, other.paper.tree), (answer.paper.cuts, answer.paper.tree))
                self.assertTrue(is_answer(task, other) and answer_is_right(task, other))
                self.assertEqual(getattr(other, "worth", None), best)
                short = shorter_answer(task, other)
                self.assertTrue(is_answer(task, short))
                self.assertLessEqual(answer_size(short)[2], min(answer_size(other)[2], most_leaves(task)))
                self.assertLessEqual(set(wishes_behind(short.paper.tree)), set(range(len(task.wishes))))
                self.assertLessEqual(set(cuts_behind(short.paper.tree)), set(range(len(short.paper.cuts))))
                self.assertTrue(is_paper(task, short.paper, best))

    def test_drawers_trees_and_cuts(self):
        for rng, task in mixed_tasks(11, 150):
            box, kept = box_of(task), kept_points_of(task)
            cuts, worths, answer = rounds(task, most=2)
            rows = cut_rows(task, cuts)
            for call in (drawn, shaved):
                told = call(task, box, passes=rest_passes(box), cuts=rows)
                if told[0] == "none":
                    self.assertIsNone(tree_fault(task, rows, box, told[1], None))
                    self.assertTrue(is_answer(task, Nothing(Paper(cuts, told[1]))))
                    continue
                self.assertTrue(is_draws(task, rows, box, told[1], told[2]))
                every = tuple((word, at) for at in range(len(box)) for word in ("low", "high"))
                self.assertTrue(is_draws(task, rows, box, told[1], needed_draws(task, told[2], every)))
            told = relaxed(task, rows, box)
            if told[0] == "best":
                point = nearest_point(told[1])
                found = guess(task, box, told[1], reach=3)
                self.assertTrue(found is None or found in kept)
                last = descent(task, box, point)[-1]
                self.assertTrue(all(is_shown(wish, last, shown(wish, last)) for wish in task.wishes))
                for multipliers, row in half_cuts(task, rows, told[1]):
                    self.assertEqual(cut_rows(task, cuts + (multipliers,))[-1], row)
            tableau = tableau_of(task, rows, box)
            if point_or_sum(tableau) == ("point",):
                to_best(tableau, task.goal)
                for multipliers, row in rounded_sums(task, rows, tableau):
                    self.assertEqual(cut_rows(task, cuts + (multipliers,))[-1], row)
            for draws, leaf in (priced_draws(task, rows, box, 3), exact_draws(task, rows, box)):
                inner = box
                for draw in draws:
                    inner = inner[:draw[0]] + ((draw[2], inner[draw[0]][1]) if draw[1] == 0 else (inner[draw[0]][0], draw[2]),) + inner[draw[0] + 1:]
                self.assertTrue(is_draws(task, rows, box, inner, draws, 3))
                if leaf is not None:
                    self.assertIsNone(tree_fault(task, rows, box, tree_after(draws, leaf), 3))

    def test_points(self):
        for rng, task in mixed_tasks(12, 120):
            kept = kept_points_of(task)
            self.assertEqual(kept_points(task, 10 ** 4), tuple(kept))
            best = best_points(task, 10 ** 4)
            shown_best = all_best(task)
            if not kept:
                self.assertTrue(is_answer(task, shown_best))
                self.assertEqual(best, ())
                continue
            self.assertTrue(is_claim(task, ("listing", shown_best)))
            self.assertEqual(shown_best.points, best)
            self.assertTrue(is_listing_for(task, listed(task, shown_best.worth + 1)))
            self.assertEqual(nearest_kept(task, box_of(task), best[0], most=0), (best[0], 0))
            steps = TreeSearch(task, known=kept[-1], cuts=rounds(task, most=1)[0])
            while steps.step():
                self.assertTrue(is_paper(task, steps.paper(), steps.bound()))
            self.assertTrue(is_claim(task, ("answer", steps.answer())))
            self.assertEqual(broken(task, best[0]), ())
            told = reliefs(task)
            self.assertTrue(all(value >= 0 for value in told))

    def test_claims_and_sessions(self):
        for rng, task in mixed_tasks(13, 80):
            wish = made_wish(rng, len(task.goal), rng.choice(KINDS))
            other = with_wishes(task, task.wishes[::-1] + (wish,))
            for claim in (blame_claim(task), follow_claim(task, wish), same_claim(task, other), same_claim(task, normal_task(task)),
                          worth_claim(task, rng.randint(-9, 9)), ("answer", solve(task))):
                self.assertTrue(is_claim(task, claim), claim)
            live, session = Live(task), Session(task)
            self.assertEqual(live.put(wish), len(task.wishes))
            line = ": put " + show_wish(names_of(task), wish)
            self.assertEqual(session.reply(read_command(names_of(task), line)), f"wishes {len(task.wishes)}")
            self.assertEqual(live.present(), session.present())
            replies = run(show_task(task) + "\n" + line + "\n: ask\n: blame\n: undo\n: ask")
            self.assertTrue(is_answer(live.present(), read_answer(live.present(), replies[1])))
            self.assertEqual(replies[2] == "kept", isinstance(live.answer(), Best))
            self.assertTrue(is_answer(task, read_answer(task, replies[4])))
            for lot in all_blames(live.present())[:2]:
                self.assertIsNone(point_or_blame(only_wishes(live.present(), lot))[0])
            for lot in all_excuses(live.present())[:2]:
                rest = tuple(k for k in range(len(live.present().wishes)) if k not in lot)
                self.assertTrue(keeps(only_wishes(live.present(), rest), point_or_blame(only_wishes(live.present(), rest))[0]))

    def test_other_unknowns(self):
        for rng, task in mixed_tasks(14, 150):
            worth = getattr(solve(task), "worth", None)
            if all(wish[0] != "round" for wish in task.wishes):
                names = dict(zip(names_of(task), rng.sample(["p", "q", "s", "u", "w"], len(task.goal))))
                self.assertEqual(getattr(solve(renamed(task, names)), "worth", None), worth)
            if all(wish[0] in ("sum", "table", "either") for wish in task.wishes):
                name = rng.choice(names_of(task))
                self.assertEqual(getattr(solve(turned(task, name)), "worth", None), worth)
                by = task.goal[names_of(task).index(name)] * 7
                self.assertEqual(getattr(solve(moved(task, name, 7)), "worth", None), None if worth is None else worth - by)


if __name__ == "__main__":
    unittest.main()
