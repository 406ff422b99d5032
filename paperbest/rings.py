"""Rounds: where their unknowns can lead, and the leaves and draws that this shows."""

from paperbest.crowds import checked_wish, crowd_of
from paperbest.leaves import box_after, leaf_holds, with_pair


def _places_of(task, number):
    return checked_wish(task, number, ("round",))[1]


def _leads(places, box):
    """For each index the indices to which its unknown can lead."""
    last = len(places) - 1
    return [list(range(max(box[place][0], 0), min(box[place][1], last) + 1)) for place in places]


def _sources(leads):
    """For each index the indices whose unknowns can lead to it."""
    sources = [[] for _ in leads]
    for index, targets in enumerate(leads):
        for target in targets:
            sources[target].append(index)
    return sources


def _reached(steps, start):
    """The indices to which one can come from one by steps, ascending."""
    seen = {start: True}
    waiting = [start]
    while waiting:
        at = waiting.pop()
        for index in steps[at]:
            if index not in seen:
                seen[index] = True
                waiting.append(index)
    return sorted(seen)


def _places_at(places, indices):
    return tuple([places[index] for index in indices])


def next_places(task, number, box, place):
    """The lot of the unknowns to which an unknown of a round can lead."""
    places = _places_of(task, number)
    return _places_at(places, _leads(places, box)[places.index(place)])


def reached_places(task, number, box, place):
    """The lot of the unknowns to which one can come from an unknown of a round."""
    places = _places_of(task, number)
    return _places_at(places, _reached(_leads(places, box), places.index(place)))


def reaching_places(task, number, box, place):
    """The lot of the unknowns from which one can come to an unknown of a round."""
    places = _places_of(task, number)
    return _places_at(places, _reached(_sources(_leads(places, box)), places.index(place)))


def ring_leaf(task, number, box):
    """Some ring of a round, or None."""
    places = _places_of(task, number)
    leads = _leads(places, box)
    inner = _reached(leads, 0)
    if len(inner) == len(places):
        # If one comes from the first one to all, then those from which one does not come back are a ring.
        back = _reached(_sources(leads), 0)
        inner = [index for index in range(len(places)) if index not in back]
    return ("ring", number, _places_at(places, inner)) if inner else None


def round_leaf(task, number, box):
    """Some crowd or ring of a round, or None."""
    crowd = crowd_of(number, _places_of(task, number), box)
    return ring_leaf(task, number, box) if crowd is None else crowd


def round_rests(task, number, box):
    """Whether no leaf holds over a box, nor over one in which an unknown of the round has one of its ends alone."""
    if round_leaf(task, number, box) is not None:
        return False
    for place in _places_of(task, number):
        for end in box[place]:
            if round_leaf(task, number, with_pair(box, place, (end, end))) is not None:
                return False
    return True


def round_draws(task, number, box):
    """A crowd or a ring; or draws with such leaves, until the box rests or has one."""
    leaf = round_leaf(task, number, box)
    if leaf is not None:
        return ("leaf", leaf)
    places = _places_of(task, number)
    draws = _index_draws(number, places, box)
    for draw in draws:
        box = box_after(box, draw)
    more = True
    while more and round_leaf(task, number, box) is None:
        more = False
        for place in places:
            for side in (0, 1):
                draw = _end_draw(task, number, box, place, side)
                if draw is not None:
                    more = True
                    draws.append(draw)
                    box = box_after(box, draw)
                    if round_leaf(task, number, box) is not None:
                        return tuple(draws)
    return tuple(draws)


def _index_draws(number, places, box):
    """Draws of the ends that are no indices; beyond all indices an unknown leads nowhere."""
    draws = []
    for place in places:
        low, high = box[place]
        if low < 0:
            draws.append((place, 0, 0, ("ring", number, (place,))))
        if high >= len(places):
            draws.append((place, 1, len(places) - 1, ("ring", number, (place,))))
    return draws


def _end_draw(task, number, box, place, side):
    """The draw of an end over as many values as one leaf tells, None if there is no leaf for the end alone."""
    low, high = box[place]
    end = box[place][side]
    leaf = round_leaf(task, number, with_pair(box, place, (end, end)))
    if leaf is None:
        return None
    # The leaf does not hold over the whole box, so this ends ahead of the other end.
    step = 1 if side == 0 else -1
    while leaf_holds(task, (), with_pair(box, place, (low, end) if side == 0 else (end, high)), leaf, None):
        end += step
    return (place, side, end, leaf)
