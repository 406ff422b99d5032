"""Shorter papers: splits that are not needed and cuts that are not used are left out."""

from paperbest.checker import tree_fault
from paperbest.papers import Best, Nothing, Paper, cut_rows, split_box
from paperbest.reasons import SUM_WORDS, cuts_behind
from paperbest.tasks import box_of


def shorter_answer(task, answer):
    """A right answer with the same point and worth, without splits and cuts that are not needed."""
    best = isinstance(answer, Best)
    least = answer.worth if best else None
    tree = _without_splits(task, cut_rows(task, answer.paper.cuts), answer.paper.tree, least)
    paper = _with_used_cuts(answer.paper.cuts, tree)
    return Best(answer.point, answer.worth, paper) if best else Nothing(paper)


def _without_splits(task, rows, tree, least):
    """The tree in which each split that one side is enough for is replaced by it, those further down first."""
    waiting = [(box_of(task), tree, False)]
    done = []
    while waiting:
        box, node, ready = waiting.pop()
        if node[0] != "split":
            done.append(node)
        elif ready:
            upper = done.pop()
            lower = done.pop()
            done.append(_joined(task, rows, box, node[:3] + (lower, upper), least))
        else:
            below, above = split_box(box, node[1], node[2])
            waiting.append((box, node, True))
            waiting.append((above, node[4], False))
            waiting.append((below, node[3], False))
    return done[0]


def _joined(task, rows, box, split, least):
    """The side of a split that is right for its box, the lower one first; or the split."""
    for side in (0, 1):
        if _stays_right(task, rows, box, split, side, least):
            return split[3 + side]
    return split


def _stays_right(task, rows, box, split, side, least):
    """Whether a side of a split, which is right for its own box, is right for that of the split.

    Only the leaves that touch the split have other boxes then.
    """
    _, at, k, _, _ = split
    waiting = [(box, split[3 + side])]
    while waiting:
        inner, node = waiting.pop()
        if node[0] != "split":
            if tree_fault(task, rows, inner, node, least) is not None:
                return False
            continue
        below, above = split_box(inner, node[1], node[2])
        if node[1] != at or side == 1:
            waiting.append((below, node[3]))
        if node[1] != at or side == 0:
            waiting.append((above, node[4]))
    return True


def _with_used_cuts(cuts, tree):
    """The paper of a tree with those of the cuts that it hangs on, which get new numbers."""
    used = {number: True for number in cuts_behind(tree)}
    for number in range(len(cuts) - 1, -1, -1):
        if number in used:
            for (word, at), _ in cuts[number]:
                if word == "cut":
                    used[at] = True
    numbers = {old: new for new, old in enumerate(sorted(used))}
    kept = tuple([_renumbered(cuts[old], numbers) for old in sorted(used)])
    return Paper(kept, _renumbered_tree(tree, numbers))


def _renumbered(multipliers, numbers):
    """Multipliers with new numbers of cuts, in the same order."""
    return tuple([((word, numbers[at] if word == "cut" else at), times) for (word, at), times in multipliers])


def _renumbered_tree(tree, numbers):
    waiting = [(tree, False)]
    done = []
    while waiting:
        node, ready = waiting.pop()
        if node[0] != "split":
            done.append((node[0], _renumbered(node[1], numbers)) if node[0] in SUM_WORDS else node)
        elif ready:
            upper = done.pop()
            lower = done.pop()
            done.append(node[:3] + (lower, upper))
        else:
            waiting.append((node, True))
            waiting.append((node[4], False))
            waiting.append((node[3], False))
    return done[0]
