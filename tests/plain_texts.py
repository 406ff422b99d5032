"""The texts of the document, recognized once more: by patterns over whole lines, and what a line means at a point."""

import re
from fractions import Fraction

from paperbest.lexer import marks_of

WORDS = {"and", "bench", "if", "least", "or", "room", "round", "table", "then", "unlike"}
SIDE = "[+-]?(?:n|[dq]n?)(?:[+-](?:n|[dq]n?))*"
SINGLE = f"{SIDE}[GL]{SIDE}"
VALUE = "-?d"
LINES = (
    f"{SIDE}[GL=]{SIDE}", f"{SIDE}(?:G{SIDE}G|L{SIDE}L|={SIDE}=){SIDE}", f"{SINGLE}(?:O{SINGLE}){{1,5}}",
    f"I{SINGLE}(?:A{SINGLE}){{0,4}}T{SINGLE}(?:O{SINGLE}){{0,4}}", "[UR]nn+",
    f"Bn+:{VALUE}(?:{VALUE})*(?:,{VALUE}(?:{VALUE})*)*", "Ynd(?:,nd)+", "Md:ndd(?:,ndd)+")
GOAL = "[EK](?:0|[+-]?d?n(?:[+-]d?n)*)"
RANGE = f"W n{VALUE}{VALUE}".replace(" ", "")
KINDS = {"or": "O", "and": "A", "then": "T", "if": "I", "unlike": "U", "round": "R", "table": "B", "bench": "Y",
         "room": "M", "least": "E", "greatest": "K", "unknown": "W", ">=": "G", "<=": "L"}


def kind_of(mark):
    """A letter for the kind of a mark."""
    if mark in KINDS:
        return KINDS[mark]
    if re.fullmatch("[a-z]{1,6}", mark):
        return "n"
    if re.fullmatch("0|[1-9][0-9]*", mark):
        return "d"
    if re.fullmatch("(?:0|[1-9][0-9]*)/[1-9][0-9]*", mark):
        return "q"
    return mark if len(mark) == 1 and mark in "+-=:,\n" else "?"


def kinds_of(marks):
    return "".join(kind_of(mark) for mark in marks)


def is_wish_line(marks, names=None):
    """Whether marks are a line of wishes, perhaps with no other names than some."""
    kinds = kinds_of(marks)
    used = [mark for mark, kind in zip(marks, kinds) if kind == "n"]
    if not any(re.fullmatch(line, kinds) for line in LINES) or (names is not None and not set(used) <= set(names)):
        return False
    if marks[0] in ("unlike", "round", "table", "bench", "room") and len(set(used)) < len(used):
        return False
    if marks[0] == "table":
        values = kinds[1 + len(used) + 1:].replace("-", "").split(",")
        return all(len(value) == len(used) for value in values)
    if marks[0] in ("bench", "room"):
        numbers = [int(mark) for mark, kind in zip(marks, kinds) if kind == "d"]
        return min(numbers) > 0 and (marks[0] == "bench" or max(numbers[2::2]) <= numbers[0])
    if marks[0] in ("unlike", "round"):
        return True
    relations = relations_of(marks)
    if len(relations) > 6:
        return False
    return all(sum_of(left)[0] != sum_of(right)[0] for left, _, right in relations)


def relations_of(marks):
    """The relations of a line: tuples of side, sign and side."""
    relations, sides, signs = [], [[]], []
    for mark in list(marks) + ["or"]:
        if mark in ("or", "and", "then"):
            relations.extend((sides[at], signs[at], sides[at + 1]) for at in range(len(signs)))
            sides, signs = [[]], []
        elif mark in (">=", "<=", "="):
            signs.append(mark)
            sides.append([])
        elif mark != "if":
            sides[-1].append(mark)
    return relations


def sum_of(side):
    """The coefficients other than 0 of a side, and its constant."""
    names, constant, sign, times = {}, Fraction(0), 1, None
    for mark in list(side) + ["+"]:
        if mark in "+-":
            constant += 0 if times is None else sign * times
            sign, times = (1 if mark == "+" else -1), None
        elif mark[0] in "0123456789":
            times = Fraction(mark)
        else:
            names[mark] = names.get(mark, 0) + sign * (1 if times is None else times)
            times = None
    return {name: value for name, value in names.items() if value}, constant


def is_goal(marks):
    return re.fullmatch(GOAL, kinds_of(marks).replace("d", "0") if marks[1:] == ["0"] else kinds_of(marks)) is not None


def is_range(marks):
    if not re.fullmatch(RANGE, kinds_of(marks)):
        return False
    low, high = values_of(marks[2:])
    return low <= high


def values_of(marks):
    values, sign = [], 1
    for mark in marks:
        if mark == "-":
            sign = -1
        else:
            values.append(sign * int(mark))
            sign = 1
    return values


def lines_of(text):
    """The marks of each line that has some."""
    lines = {}
    for number, _, mark in marks_of(text):
        if mark != "\n":
            lines.setdefault(number, []).append(mark)
    return [lines[number] for number in sorted(lines)]


def names_in_marks(marks):
    return {mark for mark in marks if kind_of(mark) == "n"}


def is_task_text(text):
    """Whether a text is that of a task."""
    lines = lines_of(text)
    if not lines or not is_goal(lines[0]):
        return False
    ranges = [line for line in lines[1:] if line[0] == "unknown"]
    wishes = [line for line in lines[1:] if line[0] != "unknown"]
    if not ranges or not all(is_range(line) for line in ranges) or not all(is_wish_line(line) for line in wishes):
        return False
    told = [line[1] for line in ranges]
    used = set().union(*[names_in_marks(line) for line in lines])
    return len(set(told)) == len(told) and set(told) == used


def line_holds(marks, values):
    """Whether a line of wishes holds for a dict of values."""
    def value(side):
        names, constant = sum_of(side)
        return constant + sum(times * values[name] for name, times in names.items())

    def is_true(relation):
        left, sign, right = relation
        one, other = value(left), value(right)
        return one >= other if sign == ">=" else one <= other if sign == "<=" else one == other

    word = marks[0]
    names = [mark for mark in marks if kind_of(mark) == "n"]
    if word == "unlike":
        return len({values[name] for name in names}) == len(names)
    if word == "round":
        at, seen = 0, []
        ordered = sorted(names)
        while at not in seen and 0 <= at < len(ordered):
            seen.append(at)
            at = values[ordered[at]]
        return at == 0 and len(seen) == len(ordered)
    if word == "table":
        lots, lot = [], []
        for mark in marks[len(names) + 2:] + [","]:
            if mark == ",":
                lots.append(values_of(lot))
                lot = []
            else:
                lot.append(mark)
        return [values[name] for name in names] in lots
    if word in ("bench", "room"):
        numbers = [int(mark) for mark in marks if kind_of(mark) == "d"]
        most = 1 if word == "bench" else numbers[0]
        jobs = [(values[name], numbers[at], 1) if word == "bench" else (
            values[name], numbers[1 + 2 * at], numbers[2 + 2 * at]) for at, name in enumerate(names)]
        moments = range(min(job[0] for job in jobs), max(job[0] + job[1] for job in jobs))
        return all(sum(need for start, length, need in jobs if start <= moment < start + length) <= most
                   for moment in moments)
    if word == "if":
        cut = marks.index("then")
        return (not all(is_true(part) for part in relations_of(marks[:cut]))
                or any(is_true(part) for part in relations_of(marks[cut + 1:])))
    if "or" in marks:
        return any(is_true(part) for part in relations_of(marks))
    return all(is_true(part) for part in relations_of(marks))
