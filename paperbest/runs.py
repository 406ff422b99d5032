"""Sessions: commands for a live task and the replies to them; and whole scripts."""

from paperbest.answertexts import show_answer
from paperbest.blame import point_or_blame, shrunk_blame
from paperbest.commands import read_script
from paperbest.errors import InvalidNumber, Refused
from paperbest.listings import Listing, above_worth, all_best
from paperbest.live import Live
from paperbest.points import broken, worth
from paperbest.printer import show_integers, show_point, show_terms, show_wish
from paperbest.solver import solve
from paperbest.tasks import names_of


class Session:
    """A task that changes by commands, each of which has a reply."""

    def __init__(self, task):
        self._live = Live(task)

    def present(self):
        """The present task."""
        return self._live.present()

    def reply(self, command):
        """Do what a command tells, and return the reply."""
        word, *items = command
        teller = TELLERS[word]
        try:
            text = teller(self._live, *items)
        except (Refused, InvalidNumber) as refusal:
            return f"refused {refusal.word}"
        return text


def _put(live, wishes):
    numbers = [live.put(wish) for wish in wishes]
    return "wishes " + show_integers(numbers)


def _strike(live, number):
    wish = live.strike(number)
    return "struck " + show_wish(names_of(live.present()), wish)


def _reach(live, name, low, high):
    live.reach(name, low, high)
    return f"range {name} {low} {high}"


def _aim(live, goal):
    live.aim(goal)
    return "least " + show_terms(names_of(live.present()), goal)


def _undo(live):
    live.undo()
    return f"changes {live.changes()}"


def _ask(live):
    return show_answer(live.present(), live.answer())


def _above(live, least):
    task = above_worth(live.present(), least)
    return show_answer(task, solve(task))


def _list(live, most):
    found = all_best(live.present(), most=most)
    if not isinstance(found, Listing):
        return "nothing"
    return "\n".join([f"best {found.worth}"] + [show_integers(point) for point in found.points])


def _blame(live):
    _, lot = point_or_blame(live.present())
    return "kept" if lot is None else "blame " + show_integers(shrunk_blame(live.present(), lot))


def _guess(live):
    point, _ = point_or_blame(live.present())
    return "unknown" if point is None else show_point(live.present(), point)


def _try(live, point):
    task = live.present()
    beyond = [name for (name, low, high), value in zip(task.unknowns, point) if not low <= value <= high]
    if beyond:
        return "beyond " + " ".join(beyond)
    numbers = broken(task, point)
    return "broken " + show_integers(numbers) if numbers else f"kept {worth(task.goal, point)}"


TELLERS = {
    "put": _put,
    "strike": _strike,
    "reach": _reach,
    "aim": _aim,
    "undo": _undo,
    "ask": _ask,
    "above": _above,
    "list": _list,
    "blame": _blame,
    "guess": _guess,
    "try": _try,
}


def run(text):
    """The replies of a session for the task of a script to its commands."""
    task, commands = read_script(text)
    session = Session(task)
    return tuple([session.reply(command) for command in commands])
