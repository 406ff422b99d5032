"""Drawing ends in: passes over the drawers of all wishes, and tries of single values."""

from paperbest.benches import bench_draws
from paperbest.crowds import crowd_draws
from paperbest.eithers import either_draws
from paperbest.ends import goal_draws, row_draws, sum_draws
from paperbest.errors import InvalidNumber
from paperbest.leaves import box_after, tree_after, with_pair
from paperbest.numbers import is_number, is_whole
from paperbest.reasons import ends_behind, needed_draws
from paperbest.rings import round_draws
from paperbest.rooms import room_draws
from paperbest.tables import table_draws


def wish_draws(task, k, box):
    """A leaf that wish k shows over a box, or draws."""
    kind = task.wishes[k][0]
    if kind == "sum":
        return sum_draws(task, k, box)
    if kind == "unlike":
        return crowd_draws(task, k, box)
    if kind == "table":
        return table_draws(task, k, box)
    if kind == "either":
        return either_draws(task, k, box)
    if kind == "bench":
        return bench_draws(task, k, box)
    return room_draws(task, k, box) if kind == "room" else round_draws(task, k, box)


def _check_passes(passes):
    if not is_number(passes):
        raise InvalidNumber("passes")


def _check_worth(worth):
    if worth is not None and not is_whole(worth):
        raise InvalidNumber("worth")


def drawn(task, box, *, passes, cuts=(), worth=None):
    """The box that passes leave, with draws that lead to it; or a tree that no point is in the box."""
    _check_passes(passes)
    _check_worth(worth)
    draws = []
    for _ in range(passes):
        more, leaf = _pass_over(task, box, cuts, worth)
        draws.extend(more)
        if leaf is not None:
            return ("none", short_tree(task, draws, leaf))
        if not more:
            break
        for draw in more:
            box = box_after(box, draw)
    return ("box", box, tuple(draws))


def short_tree(task, draws, tree):
    """The tree of draws with a tree over the box that they leave; draws that it does not hang on are left out."""
    return tree_after(needed_draws(task, tuple(draws), ends_behind(task, tree)), tree)


def _pass_over(task, box, cuts, worth):
    """The draws of a pass, and the leaf that ends it, or None."""
    draws = []
    for at in range(len(task.wishes) + len(cuts) + (0 if worth is None else 1)):
        told = _told_by(task, box, cuts, worth, at)
        if told and told[0] == "leaf":
            return (draws, told[1])
        for draw in told:
            draws.append(draw)
            box = box_after(box, draw)
    return (draws, None)


def _told_by(task, box, cuts, worth, at):
    """What the drawer with a number tells: those of the wishes come first, then the cuts, then the goal."""
    if at < len(task.wishes):
        return wish_draws(task, at, box)
    number = at - len(task.wishes)
    if number < len(cuts):
        return row_draws(("cut", number), cuts[number], box)
    return goal_draws(task, worth, box)


def rests(task, box, *, cuts=(), worth=None):
    """Whether a pass draws nothing and finds no leaf."""
    _check_worth(worth)
    draws, leaf = _pass_over(task, box, cuts, worth)
    return not draws and leaf is None


def rest_passes(box):
    """So many passes that a box is left that rests, if one is left."""
    return 1 + sum([high - low for low, high in box])


def shaved(task, box, *, passes, cuts=(), worth=None):
    """The same as drawn, but ends are also drawn by 1 where passes show that they cannot be values."""
    _check_passes(passes)
    _check_worth(worth)
    draws = []
    while True:
        found = drawn(task, box, passes=passes, cuts=cuts, worth=worth)
        if found[0] == "none":
            return ("none", short_tree(task, draws, found[1]))
        _, box, more = found
        draws.extend(more)
        draw = _shaving_draw(task, box, passes, cuts, worth)
        if draw is None:
            return ("box", box, tuple(draws))
        draws.append(draw)
        box = box_after(box, draw)


def _shaving_draw(task, box, passes, cuts, worth):
    """The first draw by 1 of an end that is no value, with the tree that shows it, or None."""
    for at, (low, high) in enumerate(box):
        if low == high:
            continue
        for side, end in enumerate((low, high)):
            found = drawn(task, with_pair(box, at, (end, end)), passes=passes, cuts=cuts, worth=worth)
            if found[0] == "none":
                return (at, side, low + 1 if side == 0 else high - 1, found[1])
    return None
