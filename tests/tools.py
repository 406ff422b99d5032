"""What the tests share: odd values, made tasks, and the plain meaning of wishes, written once more."""

import itertools
import random
from fractions import Fraction


class Hostile:
    """An object that answers no question but what it is."""

    word = at = unknowns = wishes = goal = points = 1

    def __eq__(self, other):
        raise RuntimeError("compared")

    def __lt__(self, other):
        raise RuntimeError("ordered")

    __gt__ = __le__ = __ge__ = __ne__ = __lt__

    def __hash__(self):
        raise RuntimeError("hashed")

    def __bool__(self):
        raise RuntimeError("tested")

    def __len__(self):
        raise RuntimeError("measured")

    def __iter__(self):
        raise RuntimeError("iterated")

    def __repr__(self):
        return "Hostile()"


def odd_values():
    """Values of many kinds, of which a function that takes any value may get each."""
    return [
        None, True, False, 0, 1, -1, 2, 10 ** 30, 1.0, 0.5, "", "x", "sum", "\n", b"x", (), [], {}, set(),
        (0,), (None,), ((),), [0], (1, 2), [1, 2], ("x", 0, 9), ("sum",), ("sum", (1,), False, 0), {0: 1},
        Hostile(), (Hostile(),), (Hostile(), Hostile()), object(), int, range(3), Fraction(1, 2), lambda: None]


def fraction(value):
    """A fraction of the package as one of Python."""
    return Fraction(value[0], value[1])


def pair(value):
    """A fraction of Python as one of the package."""
    value = Fraction(value)
    return (value.numerator, value.denominator)


def some_names(many):
    """So many ascending names."""
    letters = "acdefghijk"
    return sorted(letters[at // 10] + letters[at % 10] for at in range(many))


def points_of(box):
    """All points of a box."""
    return itertools.product(*[range(low, high + 1) for low, high in box])


def total(coefficients, point):
    return sum(one * other for one, other in zip(coefficients, point))


def holds(wish, point):
    """Whether a point keeps a wish, as the document says it."""
    kind = wish[0]
    if kind == "sum":
        value = total(wish[1], point)
        return value == wish[3] if wish[2] else value >= wish[3]
    if kind == "unlike":
        return all(point[i] != point[j] for i, j in itertools.combinations(wish[1], 2))
    if kind == "table":
        return any(all(point[i] == item for i, item in zip(wish[1], lot)) for lot in wish[2])
    if kind == "either":
        return any(holds(item, point) for item in wish[1])
    if kind == "bench":
        return all(point[i] + one <= point[j] or point[j] + other <= point[i]
                   for (i, one), (j, other) in itertools.combinations(wish[1], 2))
    if kind == "room":
        return all(load(wish, point, moment) <= wish[2] for moment in moments_of(wish, point))
    if kind == "round":
        seen, at = [], 0
        while at not in seen and 0 <= at < len(wish[1]):
            seen.append(at)
            at = point[wish[1][at]]
        return at == 0 and len(seen) == len(wish[1])
    raise AssertionError(kind)


def triples(wish):
    """The jobs of a bench or a room with their needs."""
    return [job if len(job) == 3 else job + (1,) for job in wish[1]]


def size(wish):
    return 1 if wish[0] == "bench" else wish[2]


def load(wish, point, moment):
    """What the jobs that run at a moment need."""
    return sum(need for place, length, need in triples(wish) if point[place] <= moment < point[place] + length)


def moments_of(wish, point):
    """All moments at which a job may run."""
    starts = [point[job[0]] for job in wish[1]]
    ends = [point[job[0]] + job[1] for job in wish[1]]
    return range(min(starts), max(ends) + 1)


def holds_all(task, point):
    """Whether a point keeps a task."""
    inside = all(low <= value <= high for (_, low, high), value in zip(task.unknowns, point))
    return inside and all(holds(wish, point) for wish in task.wishes)


def made_wish(rng, many, kind, spread=3):
    """Some wish of a kind for so many unknowns, two or more."""
    def integers():
        while True:
            items = tuple(rng.randint(-spread, spread) for _ in range(many))
            if any(items):
                return items

    def places():
        return tuple(sorted(rng.sample(range(many), rng.randint(2, many))))

    if kind == "sum":
        return ("sum", integers(), rng.random() < 0.3, rng.randint(-4, 6))
    if kind in ("unlike", "round"):
        return (kind, places())
    if kind == "table":
        chosen = rng.sample(range(many), rng.randint(1, many))
        lots = {tuple(rng.randint(0, 3) for _ in chosen) for _ in range(rng.randint(1, 6))}
        return ("table", tuple(chosen), tuple(sorted(lots)))
    if kind == "either":
        return ("either", tuple(("sum", integers(), False, rng.randint(-4, 9)) for _ in range(rng.randint(2, 4))))
    if kind == "bench":
        return ("bench", tuple((place, rng.randint(1, 3)) for place in places()))
    most = rng.randint(1, 4)
    return ("room", tuple((place, rng.randint(1, 3), rng.randint(1, most)) for place in places()), most)


KINDS = ("sum", "unlike", "table", "either", "bench", "room", "round")


def made_box(rng, many, low=-2, high=4, width=4):
    """Some box."""
    box = []
    for _ in range(many):
        start = rng.randint(low, high)
        box.append((start, start + rng.randint(0, width)))
    return tuple(box)


def generator(seed):
    """Chosen values that are the same in each run."""
    return random.Random(seed)


def changed(point, at, value):
    return point[:at] + (value,) + point[at + 1:]
