"""The texts of fractions, tasks, wishes and points."""

from paperbest.tasks import names_of


def show_fraction(value):
    """The text of a fraction."""
    top, bottom = value
    return str(top) if bottom == 1 else f"{top}/{bottom}"


def show_task(task):
    """The text of a task: its goal, its wishes and its unknowns."""
    names = names_of(task)
    lines = ["least " + show_terms(names, task.goal)]
    lines.extend([show_wish(names, wish) for wish in task.wishes])
    lines.extend([f"unknown {name} {low} {high}" for name, low, high in task.unknowns])
    return "\n".join(lines)


def show_terms(names, coefficients):
    """The text of a sum of unknowns; that of no terms is 0."""
    text = ""
    for name, times in zip(names, coefficients):
        if times == 0:
            continue
        size = "" if abs(times) == 1 else f"{abs(times)} "
        if text:
            text += " - " if times < 0 else " + "
        elif times < 0:
            text = "-"
        text += size + name
    return text if text else "0"


def show_wish(names, wish):
    """The line of a wish for the names of a task."""
    if wish[0] == "sum":
        return _show_sum(names, wish)
    if wish[0] == "either":
        return " or ".join([_show_sum(names, item) for item in wish[1]])
    if wish[0] == "table":
        return f"table {show_names(names, wish[1])}: " + ", ".join([show_integers(lot) for lot in wish[2]])
    if wish[0] == "bench":
        return "bench " + _show_jobs(names, wish[1])
    if wish[0] == "room":
        return f"room {wish[2]}: " + _show_jobs(names, wish[1])
    return f"{wish[0]} {show_names(names, wish[1])}"


def _show_sum(names, wish):
    _, coefficients, equal, bound = wish
    sign = "=" if equal else ">="
    return f"{show_terms(names, coefficients)} {sign} {bound}"


def show_names(names, places):
    """The names of some places."""
    return " ".join([names[place] for place in places])


def show_integers(integers):
    """Integers with blanks between them."""
    return " ".join([str(integer) for integer in integers])


def _show_jobs(names, jobs):
    return ", ".join([names[job[0]] + " " + show_integers(job[1:]) for job in jobs])


def show_point(task, point):
    """The text of a point: a line for each unknown."""
    return "\n".join([f"{name} = {value}" for name, value in zip(names_of(task), point)])
