"""The marks of texts."""

LETTERS = "abcdefghijklmnopqrstuvwxyz"
DIGITS = "0123456789"


def marks_of(text):
    """The marks of a string as a tuple of (line, at, mark)."""
    marks = []
    line = 0
    line_start = 0
    here = 0
    while here < len(text):
        end = _mark_end(text, here)
        if text[here] != " ":
            marks.append((line, here - line_start, text[here:end]))
        if text[here] == "\n":
            line += 1
            line_start = end
        here = end
    return tuple(marks)


def _mark_end(text, start):
    """The index behind the mark (or the blank) that starts here."""
    if text[start] in LETTERS:
        return _run_end(text, start, LETTERS)
    if text[start] in DIGITS:
        return _numeral_end(text, start)
    if text[start:start + 2] in (">=", "<="):
        return start + 2
    return start + 1


def _run_end(text, start, signs):
    end = start
    while end < len(text) and text[end] in signs:
        end += 1
    return end


def _numeral_end(text, start):
    end = _run_end(text, start, DIGITS)
    if text[end:end + 1] != "/":
        return end
    behind = _run_end(text, end + 1, DIGITS)
    # A stroke with no digit behind it is a mark of its own.
    return behind if behind > end + 1 else end
