"""The texts of answers: what a Best or a Nothing says, and its paper."""

from paperbest.lexer import DIGITS
from paperbest.papers import Best, Nothing, Paper
from paperbest.printer import show_fraction, show_integers, show_names, show_point
from paperbest.source import Source, take_fraction, take_name, take_newlines, take_value, take_whole
from paperbest.sums import END_WORDS
from paperbest.tasks import names_of

KEY_WORDS = ("row", "cut", "low", "high")
SUM_WORDS = ("worth", "none")
PLACE_WORDS = ("crowd", "ring")
# What stands behind the number of the wish: how many whole numerals, whether a lot, and how many values behind it.
LEAF_PARTS = {
    "crowd": (0, True, 2),
    "out": (0, False, 0),
    "shut": (0, False, 0),
    "late": (2, False, 0),
    "load": (0, True, 2),
    "full": (0, True, 1),
    "ring": (0, True, 0),
    "broken": (0, False, 0),
}


def show_answer(task, answer):
    """The text of an answer."""
    names = names_of(task)
    lines = ["nothing"]
    if isinstance(answer, Best):
        lines = [f"best {answer.worth}", show_point(task, answer.point)]
    lines.extend([_show_multipliers(names, "cut", cut) for cut in answer.paper.cuts])
    waiting = [answer.paper.tree]
    while waiting:
        node = waiting.pop()
        if node[0] == "split":
            _, at, k, lower, upper = node
            lines.append(f"split {names[at]} {k}")
            waiting.extend([upper, lower])
        else:
            lines.append(_show_leaf(names, node))
    return "\n".join(lines)


def _show_multipliers(names, word, multipliers):
    pairs = []
    for (key, at), times in multipliers:
        where = names[at] if key in END_WORDS else str(at)
        pairs.append(f"{key} {where} {show_fraction(times)}")
    return word + " " + ", ".join(pairs) if pairs else word


def _show_leaf(names, leaf):
    if leaf[0] in SUM_WORDS:
        return _show_multipliers(names, leaf[0], leaf[1])
    numbers, lot, values = LEAF_PARTS[leaf[0]]
    text = leaf[0] + " " + show_integers(leaf[1:2 + numbers])
    if not lot:
        return text
    text += " " + (show_names(names, leaf[2]) if leaf[0] in PLACE_WORDS else show_integers(leaf[2]))
    return text + ": " + show_integers(leaf[3:]) if values > 0 else text


def read_answer(task, text):
    """The answer to a task that a text tells."""
    source = Source(text, names_of(task), False)
    take_newlines(source)
    word = source.take_of(("best", "nothing"))
    worth, point = _take_worth_and_point(source) if word == "best" else (None, None)
    _take_line_end(source)
    cuts = []
    while source.now() == "cut":
        source.step()
        cuts.append(_take_multipliers(source))
        _take_line_end(source)
    paper = Paper(tuple(cuts), _take_tree(source))
    take_newlines(source)
    if source.now() != "":
        source.fail()
    return Best(point, worth, paper) if word == "best" else Nothing(paper)


def _take_line_end(source):
    source.expect("\n")
    take_newlines(source)


def _take_worth_and_point(source):
    worth = take_value(source)
    point = []
    for name in source.names:
        _take_line_end(source)
        source.expect(name)
        source.expect("=")
        point.append(take_value(source))
    return (worth, tuple(point))


def _take_tree(source):
    """Take the lines of a tree; splits that are not done yet wait with their lower sides."""
    splits = []
    while True:
        if source.now() == "split":
            source.step()
            splits.append((_take_place(source), take_value(source), []))
        else:
            node = _take_leaf(source)
            while splits and splits[-1][2]:
                at, k, lower = splits.pop()
                node = ("split", at, k, lower[0], node)
            if not splits:
                return node
            splits[-1][2].append(node)
        _take_line_end(source)


def _take_leaf(source):
    word = source.take_of(SUM_WORDS + tuple(LEAF_PARTS))
    if word in SUM_WORDS:
        return (word, _take_multipliers(source))
    numbers, lot, values = LEAF_PARTS[word]
    leaf = (word,) + tuple([take_whole(source, 0) for _ in range(1 + numbers)])
    if lot:
        leaf = leaf + (_take_places(source) if word in PLACE_WORDS else _take_jobs(source),)
    if values > 0:
        source.expect(":")
    return leaf + tuple([take_value(source) for _ in range(values)])


def _take_place(source):
    return source.names.index(take_name(source, ()))


def _take_places(source):
    places = [_take_place(source)]
    while source.knows(source.now()):
        places.append(_take_place(source))
    return tuple(places)


def _take_jobs(source):
    jobs = [take_whole(source, 0)]
    while source.now()[:1] in tuple(DIGITS):
        jobs.append(take_whole(source, 0))
    return tuple(jobs)


def _take_multipliers(source):
    if source.now() not in KEY_WORDS:
        return ()
    pairs = [_take_pair(source)]
    while source.now() == ",":
        source.step()
        pairs.append(_take_pair(source))
    return tuple(pairs)


def _take_pair(source):
    word = source.take_of(KEY_WORDS)
    at = _take_place(source) if word in END_WORDS else take_whole(source, 0)
    return ((word, at), _take_times(source))


def _take_times(source):
    """Take a numeral other than 0, perhaps with a sign before it."""
    sign = 1
    if source.now() == "-":
        source.step()
        sign = -1
    if source.now().split("/")[0] == "0":
        source.fail()
    top, bottom = take_fraction(source)
    return (sign * top, bottom)
