"""Leaves of papers, and draws that each come with one."""

from paperbest.benches import end_of, job_windows, size_of, work_of
from paperbest.numbers import ceiling_of, is_whole, whole
from paperbest.points import keeps_wish
from paperbest.sums import are_multipliers, summed
from paperbest.wishes import is_integers, is_lot_of_places, named_by


def leaf_holds(task, cuts, box, value, worth):
    """Whether any value is a leaf that holds over a box."""
    if not isinstance(value, tuple) or len(value) < 2 or not isinstance(value[0], str):
        return False
    if value[0] in ("worth", "none"):
        return len(value) == 2 and _sum_leaf_holds(task, cuts, box, value, worth)
    if value[0] not in LEAF_TESTS:
        return False
    if len(value) != LEAF_ITEMS[value[0]] or not is_whole(value[1]) or not 0 <= value[1] < len(task.wishes):
        return False
    if task.wishes[value[1]][0] not in LEAF_KINDS[value[0]]:
        return False
    test = LEAF_TESTS[value[0]]
    return test(task, box, value)


def _sum_leaf_holds(task, cuts, box, value, worth):
    word, multipliers = value
    if not are_multipliers(task, cuts, box, multipliers):
        return False
    coefficients, bound = summed(task, cuts, box, multipliers)
    if word == "none":
        return not any([item[0] != 0 for item in coefficients]) and bound[0] > 0
    if worth is None or coefficients != tuple([whole(item) for item in task.goal]):
        return False
    return ceiling_of(bound) >= worth


def _crowd_holds(task, box, value):
    _, k, places, first, last = value
    if not is_integers((first, last), 2) or first > last or not is_lot_of_places(places, len(box)):
        return False
    named = task.wishes[k][1]
    for place in places:
        if place not in named or box[place][0] < first or box[place][1] > last:
            return False
    return len(places) > last - first + 1


def _out_holds(task, box, value):
    _, places, lots = task.wishes[value[1]]
    for lot in lots:
        if all([box[place][0] <= item <= box[place][1] for place, item in zip(places, lot)]):
            return False
    return True


def _shut_holds(task, box, value):
    return all([top_of(item, box) < item[3] for item in task.wishes[value[1]][1]])


def top_of(item, box):
    """The greatest total of a sum over a box."""
    top = 0
    for times, (low, high) in zip(item[1], box):
        top += times * (high if times > 0 else low)
    return top


def _late_holds(task, box, value):
    _, k, job, later = value
    windows = job_windows(task, k, box)
    if not is_lot_of_places((job, later), len(windows)):
        return False
    one, other = windows[job], windows[later]
    if one[3] + other[3] <= size_of(task.wishes[k]):
        return False
    return one[0] + one[2] > other[1] and other[0] + other[2] > one[1]


def _load_holds(task, box, value):
    _, k, jobs, first, last = value
    windows = job_windows(task, k, box)
    if not is_integers((first, last), 2) or first > last or not is_lot_of_places(jobs, len(windows)):
        return False
    chosen = [windows[job] for job in jobs]
    if any([window[0] < first or end_of(window) > last for window in chosen]):
        return False
    return sum([work_of(window) for window in chosen]) > size_of(task.wishes[k]) * (last - first)


def _full_holds(task, box, value):
    _, k, jobs, moment = value
    windows = job_windows(task, k, box)
    if not is_whole(moment) or not is_lot_of_places(jobs, len(windows)):
        return False
    chosen = [windows[job] for job in jobs]
    if any([window[1] > moment or window[0] + window[2] <= moment for window in chosen]):
        return False
    return sum([window[3] for window in chosen]) > size_of(task.wishes[k])


def _ring_holds(task, box, value):
    _, k, places = value
    named = task.wishes[k][1]
    if not is_lot_of_places(places, len(box)) or not 0 < len(places) < len(named):
        return False
    if any([place not in named for place in places]):
        return False
    inner = {named.index(place): True for place in places}
    for place in places:
        low, high = box[place]
        for index in range(max(low, 0), min(high, len(named) - 1) + 1):
            if index not in inner:
                return False
    return True


def _broken_holds(task, box, value):
    wish = task.wishes[value[1]]
    if any([box[place][0] != box[place][1] for place in named_by(wish)]):
        return False
    return not keeps_wish(wish, tuple([low for low, _ in box]))


LEAF_TESTS = {
    "crowd": _crowd_holds,
    "out": _out_holds,
    "shut": _shut_holds,
    "late": _late_holds,
    "load": _load_holds,
    "full": _full_holds,
    "ring": _ring_holds,
    "broken": _broken_holds,
}
LEAF_ITEMS = {"crowd": 5, "out": 2, "shut": 2, "late": 4, "load": 5, "full": 4, "ring": 3, "broken": 2}
LEAF_KINDS = {
    "crowd": ("unlike", "round"),
    "out": ("table",),
    "shut": ("either",),
    "late": ("bench", "room"),
    "load": ("bench", "room"),
    "full": ("room",),
    "ring": ("round",),
    "broken": ("sum", "unlike", "table", "either", "bench", "room", "round"),
}


def draw_holds(task, cuts, box, value, worth):
    """Whether any value is a draw whose leaf holds over what it leaves out."""
    out = box_left_out(box, value)
    return out is not None and leaf_holds(task, cuts, out, value[3], worth)


def box_left_out(box, value):
    """The box that any value leaves out if it is a draw, whatever its last item is; None if it is none."""
    if not isinstance(value, tuple) or len(value) != 4:
        return None
    at, side, end, _ = value
    if not is_integers((at, side, end), 3) or not 0 <= at < len(box) or side not in (0, 1):
        return None
    low, high = box[at]
    if side == 0:
        return with_pair(box, at, (low, end - 1)) if low < end <= high else None
    return with_pair(box, at, (end + 1, high)) if low <= end < high else None


def with_pair(box, at, pair):
    """The box with another pair at a place."""
    return box[:at] + (pair,) + box[at + 1:]


def box_after(box, draw):
    """The box that a draw leaves."""
    at, side, end, _ = draw
    low, high = box[at]
    return with_pair(box, at, (end, high) if side == 0 else (low, end))


def tree_after(draws, tree):
    """The tree in which each draw is a split above the tree, with its leaf as one side."""
    for at, side, end, leaf in reversed(draws):
        if side == 0:
            tree = ("split", at, end - 1, leaf, tree)
        else:
            tree = ("split", at, end, tree, leaf)
    return tree
