"""What the tests share: odd values, made tasks, and the plain meaning of wishes, written once more."""

import itertools
import math
import random
from fractions import Fraction


class Hostile:
    """An object that answers no question but what it is."""

    word = at = unknowns = wishes = goal = points = 1

    def __eq__(self, other):
        raise RuntimeError("compared")

    def __lt__(self, other):
        raise RuntimeError("ordered")

    __gt__ = __le__ = __ge__ = __ne__ = __lt__

    def __hash__(self):
        raise RuntimeError("hashed")

    def __bool__(self):
        raise RuntimeError("tested")

    def __len__(self):
        raise RuntimeError("measured")

    def __iter__(self):
        raise RuntimeError("iterated")

    def __repr__(self):
        return "Hostile()"


def odd_values():
    """Values of many kinds, of which a function that takes any value may get each."""
    return [
        None, True, False, 0, 1, -1, 2, 10 ** 30, 1.0, 0.5, "", "x", "sum", "\n", b"x", (), [], {}, set(),
        (0,), (None,), ((),), [0], (1, 2), [1, 2], ("x", 0, 9), ("sum",), ("sum", (1,), False, 0), {0: 1},
        Hostile(), (Hostile(),), (Hostile(), Hostile()), object(), int, range(3), Fraction(1, 2), lambda: None]


def fraction(value):
    """A fraction of the package as one of Python."""
    return Fraction(value[0], value[1])


def pair(value):
    """A fraction of Python as one of the package."""
    value = Fraction(value)
    return (value.numerator, value.denominator)


def some_names(many):
    """So many ascending names."""
    letters = "acdefghijk"
    return sorted(letters[at // 10] + letters[at % 10] for at in range(many))


def points_of(box):
    """All points of a box."""
    return itertools.product(*[range(low, high + 1) for low, high in box])


def total(coefficients, point):
    return sum(one * other for one, other in zip(coefficients, point))


def holds(wish, point):
    """Whether a point keeps a wish, as the document says it."""
    kind = wish[0]
    if kind == "sum":
        value = total(wish[1], point)
        return value == wish[3] if wish[2] else value >= wish[3]
    if kind == "unlike":
        return all(point[i] != point[j] for i, j in itertools.combinations(wish[1], 2))
    if kind == "table":
        return any(all(point[i] == item for i, item in zip(wish[1], lot)) for lot in wish[2])
    if kind == "either":
        return any(holds(item, point) for item in wish[1])
    if kind == "bench":
        return all(point[i] + one <= point[j] or point[j] + other <= point[i]
                   for (i, one), (j, other) in itertools.combinations(wish[1], 2))
    if kind == "room":
        return all(load(wish, point, moment) <= wish[2] for moment in moments_of(wish, point))
    if kind == "round":
        seen, at = [], 0
        while at not in seen and 0 <= at < len(wish[1]):
            seen.append(at)
            at = point[wish[1][at]]
        return at == 0 and len(seen) == len(wish[1])
    raise AssertionError(kind)


def triples(wish):
    """The jobs of a bench or a room with their needs."""
    return [job if len(job) == 3 else job + (1,) for job in wish[1]]


def size(wish):
    return 1 if wish[0] == "bench" else wish[2]


def load(wish, point, moment):
    """What the jobs that run at a moment need."""
    return sum(need for place, length, need in triples(wish) if point[place] <= moment < point[place] + length)


def moments_of(wish, point):
    """All moments at which a job may run."""
    starts = [point[job[0]] for job in wish[1]]
    ends = [point[job[0]] + job[1] for job in wish[1]]
    return range(min(starts), max(ends) + 1)


def holds_all(task, point):
    """Whether a point keeps a task."""
    inside = all(low <= value <= high for (_, low, high), value in zip(task.unknowns, point))
    return inside and all(holds(wish, point) for wish in task.wishes)


def made_wish(rng, many, kind, spread=3):
    """Some wish of a kind for so many unknowns, two or more."""
    def integers():
        while True:
            items = tuple(rng.randint(-spread, spread) for _ in range(many))
            if any(items):
                return items

    def places():
        return tuple(sorted(rng.sample(range(many), rng.randint(2, many))))

    if kind == "sum":
        return ("sum", integers(), rng.random() < 0.3, rng.randint(-4, 6))
    if kind in ("unlike", "round"):
        return (kind, places())
    if kind == "table":
        chosen = rng.sample(range(many), rng.randint(1, many))
        lots = {tuple(rng.randint(0, 3) for _ in chosen) for _ in range(rng.randint(1, 6))}
        return ("table", tuple(chosen), tuple(sorted(lots)))
    if kind == "either":
        return ("either", tuple(("sum", integers(), False, rng.randint(-4, 9)) for _ in range(rng.randint(2, 4))))
    if kind == "bench":
        return ("bench", tuple((place, rng.randint(1, 3)) for place in places()))
    most = rng.randint(1, 4)
    return ("room", tuple((place, rng.randint(1, 3), rng.randint(1, most)) for place in places()), most)


KINDS = ("sum", "unlike", "table", "either", "bench", "room", "round")


def made_box(rng, many, low=-2, high=4, width=4):
    """Some box."""
    box = []
    for _ in range(many):
        start = rng.randint(low, high)
        box.append((start, start + rng.randint(0, width)))
    return tuple(box)


def generator(seed):
    """Chosen values that are the same in each run."""
    return random.Random(seed)


def changed(point, at, value):
    return point[:at] + (value,) + point[at + 1:]


def given(task, cuts, box, multipliers):
    """What multipliers give, with fractions of Python; None if they are none."""
    form, bound, before = [Fraction(0)] * len(task.unknowns), Fraction(0), None
    for key, times in multipliers:
        word, at = key
        times = Fraction(times[0], times[1])
        equal = False
        if word == "row":
            _, row, equal, end = task.wishes[at]
        elif word == "cut":
            row, _, end = cuts[at]
        else:
            row = [0] * len(form)
            row[at] = 1 if word == "low" else -1
            end = box[at][0] if word == "low" else -box[at][1]
        if (before is not None and key <= before) or times == 0 or (times < 0 and not equal):
            return None
        before = key
        form = [one + times * item for one, item in zip(form, row)]
        bound += times * end
    return form, bound


def leaf_is_right(task, cuts, box, leaf, worth=None):
    """Whether a leaf holds over a box, as point 28 says it."""
    word = leaf[0]
    if word in ("worth", "none"):
        told = given(task, cuts, box, leaf[1])
        if told is None:
            return False
        if word == "none":
            return not any(told[0]) and told[1] > 0
        return worth is not None and told[0] == list(task.goal) and told[1] > worth - 1
    wish = task.wishes[leaf[1]]
    kind = wish[0]
    if word in ("crowd", "ring", "load", "full") and list(leaf[2]) != sorted(set(leaf[2])):
        return False
    if word == "crowd":
        _, _, places, a, b = leaf
        return (kind in ("unlike", "round") and set(places) <= set(wish[1]) and a <= b
                and all(a <= box[at][0] and box[at][1] <= b for at in places) and len(places) > b - a + 1)
    if word == "out":
        return kind == "table" and not any(
            all(box[at][0] <= item <= box[at][1] for at, item in zip(wish[1], lot)) for lot in wish[2])
    if word == "shut":
        return kind == "either" and all(
            sum(max(times * low, times * high) for times, (low, high) in zip(item[1], box)) < item[3]
            for item in wish[1])
    if word == "ring":
        inner = {wish[1].index(at) for at in leaf[2]} if kind == "round" and set(leaf[2]) <= set(wish[1]) else set()
        return 0 < len(inner) < len(wish[1]) and all(
            index in inner for at in leaf[2] for index in range(len(wish[1])) if box[at][0] <= index <= box[at][1])
    if word == "broken":
        named = [at for at in range(len(box)) if at in names_in(wish)]
        return all(box[at][0] == box[at][1] for at in named) and not holds(wish, tuple(low for low, _ in box))
    return jobs_leaf_is_right(wish, box, leaf)


def names_in(wish):
    """The unknowns that a wish names."""
    if wish[0] == "sum":
        return {at for at, times in enumerate(wish[1]) if times}
    if wish[0] == "either":
        return set().union(*[names_in(item) for item in wish[1]])
    return {job[0] for job in wish[1]} if wish[0] in ("bench", "room") else set(wish[1])


def jobs_leaf_is_right(wish, box, leaf):
    """Whether a late, load or full leaf holds."""
    if wish[0] not in ("bench", "room") or (leaf[0] == "full" and wish[0] == "bench"):
        return False
    jobs, most = triples(wish), size(wish)
    low, high = [box[job[0]][0] for job in jobs], [box[job[0]][1] for job in jobs]
    if leaf[0] == "late":
        _, _, i, j = leaf
        return (0 <= i < j < len(jobs) and jobs[i][2] + jobs[j][2] > most
                and low[i] + jobs[i][1] > high[j] and low[j] + jobs[j][1] > high[i])
    lot = leaf[2]
    if not set(lot) <= set(range(len(jobs))):
        return False
    if leaf[0] == "load":
        _, _, _, a, b = leaf
        return (a <= b and all(low[i] >= a and high[i] + jobs[i][1] <= b for i in lot)
                and sum(jobs[i][1] * jobs[i][2] for i in lot) > most * (b - a))
    return (all(high[i] <= leaf[3] < low[i] + jobs[i][1] for i in lot)
            and sum(jobs[i][2] for i in lot) > most)


def left_out(box, draw):
    """The box that a draw leaves out and the one that it leaves; AssertionError if its end is none."""
    at, side, end = draw[:3]
    low, high = box[at]
    if side == 0:
        assert low < end <= high, (box, draw)
        return changed(box, at, (low, end - 1)), changed(box, at, (end, high))
    assert side == 1 and low <= end < high, (box, draw)
    return changed(box, at, (end + 1, high)), changed(box, at, (low, end))


def after_draws(task, cuts, box, draws, worth=None):
    """The box that draws leave; AssertionError if one is wrong."""
    for draw in draws:
        out, box = left_out(box, draw)
        assert len(draw) == 4 and leaf_is_right(task, cuts, out, draw[3], worth), (task.wishes, out, draw)
    return box


def hull(points):
    """The least box of some points."""
    return tuple((min(values), max(values)) for values in zip(*points))


def right_tree(rng, task, box, worth=None):
    """A tree, made by chance, in which no point of a box keeps a task (with a worth: none of a lesser one).

    AssertionError if some point does.
    """
    wide = [at for at, (low, high) in enumerate(box) if low < high]
    leaves = some_leaves(task, box, worth)
    if leaves and (not wide or rng.random() < 0.7):
        return rng.choice(leaves)
    assert wide, (task.wishes, box)
    at = rng.choice(wide)
    k = rng.randint(box[at][0], box[at][1] - 1)
    sides = [right_tree(rng, task, changed(box, at, pair), worth) for pair in ((box[at][0], k), (k + 1, box[at][1]))]
    return ("split", at, k, sides[0], sides[1])


def some_leaves(task, box, worth=None):
    """Leaves that hold over a box: of single sums, of the goal, and of wishes by themselves."""
    leaves = [("out", k) for k, wish in enumerate(task.wishes) if wish[0] == "table"]
    leaves += [("shut", k) for k, wish in enumerate(task.wishes) if wish[0] == "either"]
    leaves += [("broken", k) for k in range(len(task.wishes))]
    for k, wish in enumerate(task.wishes):
        if wish[0] == "sum":
            leaves += [("none", ends_against(wish[1], ("row", k), sign)) for sign in ((1, -1) if wish[2] else (1,))]
        if wish[0] in ("unlike", "round"):
            for places in itertools.combinations(wish[1], 2):
                leaves.append(("crowd", k, places, min(box[at][0] for at in places), max(box[at][1] for at in places)))
        if wish[0] in ("bench", "room"):
            leaves += [("late", k, i, j) for i, j in itertools.combinations(range(len(wish[1])), 2)]
    if worth is not None:
        leaves.append(("worth", ends_against([-times for times in task.goal], None, 1)))
    return [leaf for leaf in leaves if leaf_is_right(task, (), box, leaf, worth)]


def ends_against(coefficients, key, sign):
    """Multipliers of a row, or of its opposite, and of the ends at which it is greatest."""
    pairs = [(key, (sign, 1))] if key else []
    for at, times in enumerate(coefficients):
        if times:
            pairs.append((("high" if sign * times > 0 else "low", at), (abs(times), 1)))
    return tuple(sorted(pairs))


def nodes_of(box, tree):
    """The pairs of box and node of a tree in their order; the splits must be right."""
    found, waiting = [], [(box, tree)]
    while waiting:
        inner, node = waiting.pop()
        found.append((inner, node))
        if node[0] == "split":
            _, at, k, lower, upper = node
            assert inner[at][0] <= k < inner[at][1], (inner, node[:3])
            waiting.append((changed(inner, at, (k + 1, inner[at][1])), upper))
            waiting.append((changed(inner, at, (inner[at][0], k)), lower))
    return found


def tree_is_right(task, cuts, box, tree, worth=None):
    """Whether all leaves of a tree are right; AssertionError if a split is not."""
    return all(leaf_is_right(task, cuts, inner, node, worth) for inner, node in nodes_of(box, tree) if node[0] != "split")


def plain_cut_rows(task, cuts):
    """The rows of the cuts of a paper; AssertionError if one is none."""
    rows, box = [], tuple(unknown[1:] for unknown in task.unknowns)
    for multipliers in cuts:
        told = given(task, rows, box, multipliers)
        assert told is not None and any(told[0]) and all(item.denominator == 1 for item in told[0]), multipliers
        rows.append((tuple(int(item) for item in told[0]), False, math.ceil(told[1])))
    return rows


def answer_is_right(task, answer):
    """Whether an answer is a right Best or Nothing, as point 30 says it."""
    box = tuple(unknown[1:] for unknown in task.unknowns)
    rows = plain_cut_rows(task, answer.paper.cuts)
    if hasattr(answer, "point"):
        return (holds_all(task, answer.point) and answer.worth == total(task.goal, answer.point)
                and tree_is_right(task, rows, box, answer.paper.tree, answer.worth))
    return tree_is_right(task, rows, box, answer.paper.tree)


def kept_points_of(task):
    """All points that keep a task, ascending, by trying."""
    return [point for point in points_of([unknown[1:] for unknown in task.unknowns]) if holds_all(task, point)]


def some_task(rng, many=3, kinds=KINDS, most=3, width=4, low=-2, goal=3):
    """Some task of wishes of some kinds with narrow ranges."""
    box = made_box(rng, many, low, 2, width)
    unknowns = tuple((name, *pair) for name, pair in zip(some_names(many), box))
    # One unknown alone is unlike nothing, and nothing follows it.
    kinds = kinds if many > 1 else [kind for kind in kinds if kind in ("sum", "table", "either")]
    wishes = tuple(made_wish(rng, many, rng.choice(kinds)) for _ in range(rng.randint(0, most)))
    from paperbest.tasks import Task
    return Task(unknowns, wishes, tuple(rng.randint(-goal, goal) for _ in range(many)))
