"""Draws with trees, and the wishes, cuts and ends that trees and draws hang on."""

from paperbest.benches import jobs_of
from paperbest.checker import tree_fault
from paperbest.leaves import box_after, box_left_out
from paperbest.sums import END_WORDS
from paperbest.wishes import named_by

SUM_WORDS = ("worth", "none")


def is_draw(task, cuts, box, value, worth=None):
    """Whether any value is a draw whose tree is right, for a worth or None, over what it leaves out."""
    out = box_left_out(box, value)
    return out is not None and tree_fault(task, cuts, out, value[3], worth) is None


def is_draws(task, cuts, box, other, value, worth=None):
    """Whether any value is draws, each over the box that is left before it, which together leave another box."""
    if not isinstance(value, tuple):
        return False
    for draw in value:
        if not is_draw(task, cuts, box, draw, worth):
            return False
        box = box_after(box, draw)
    return box == other


def leaves_in(tree):
    """The leaves of a tree, those of lower sides first."""
    leaves = []
    waiting = [tree]
    while waiting:
        node = waiting.pop()
        if node[0] == "split":
            waiting.append(node[4])
            waiting.append(node[3])
        else:
            leaves.append(node)
    return leaves


def wishes_behind(tree):
    """The lot of the numbers of the wishes that the leaves of a tree name."""
    numbers = [leaf[1] for leaf in leaves_in(tree) if leaf[0] not in SUM_WORDS]
    return tuple(sorted(set(numbers + _numbers_of(tree, "row"))))


def cuts_behind(tree):
    """The lot of the numbers of the cuts that the leaves of a tree name."""
    return tuple(sorted(set(_numbers_of(tree, "cut"))))


def _numbers_of(tree, word):
    """The numbers in the keys with a word of all multipliers of a tree."""
    numbers = []
    for leaf in leaves_in(tree):
        if leaf[0] in SUM_WORDS:
            numbers.extend([key[1] for key, _ in leaf[1] if key[0] == word])
    return numbers


def ends_behind(task, tree):
    """The lot of the ends that the leaves of a tree name."""
    return tuple(sorted(set([end for leaf in leaves_in(tree) for end in leaf_ends(task, leaf)])))


def leaf_ends(task, leaf):
    """The ends that a leaf names."""
    if leaf[0] in SUM_WORDS:
        return [key for key, _ in leaf[1] if key[0] in END_WORDS]
    if leaf[0] == "shut":
        return _top_ends(task.wishes[leaf[1]][1])
    places = leaf_places(task.wishes[leaf[1]], leaf)
    return [(word, place) for word in END_WORDS for place in places]


def _top_ends(sums):
    """The ends that make sums greatest."""
    ends = []
    for item in sums:
        ends.extend([("high" if times > 0 else "low", at) for at, times in enumerate(item[1]) if times != 0])
    return ends


def leaf_places(wish, leaf):
    """The unknowns of a leaf that is not of multipliers: its places, those of its jobs, or all of the wish."""
    if leaf[0] in ("crowd", "ring"):
        return leaf[2]
    if leaf[0] == "late":
        return [jobs_of(wish)[job][0] for job in leaf[2:]]
    if leaf[0] in ("load", "full"):
        return [jobs_of(wish)[job][0] for job in leaf[2]]
    return named_by(wish)


def needed_draws(task, draws, ends):
    """Those of the draws that the ends that are asked for hang on."""
    asked = {end: True for end in ends}
    kept = []
    for draw in reversed(draws):
        at, side, _, tree = draw
        end = (END_WORDS[side], at)
        if end in asked:
            kept.append(draw)
            del asked[end]
            for other in ends_behind(task, tree):
                asked[other] = True
    return tuple(reversed(kept))
