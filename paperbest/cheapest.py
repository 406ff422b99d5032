"""Cheapest points of unlikes, and the prices of values that show that none is cheaper."""

from paperbest.crowds import checked_wish
from paperbest.points import in_box, keeps_wish
from paperbest.wishes import is_integers


def is_cheapest(task, number, box, value):
    """Whether any value is a point with prices that show that no point that keeps an unlike costs less."""
    wish = checked_wish(task, number, ("unlike",))
    if not isinstance(value, tuple) or len(value) != 2:
        return False
    point, prices = value
    if not is_integers(point, len(box)) or not _are_prices(prices):
        return False
    if not in_box(point, box) or not keeps_wish(wish, point):
        return False
    table = {item: price for item, price in prices}
    shown = -sum([price for _, price in prices])
    cost = 0
    for place in wish[1]:
        cost += task.goal[place] * point[place]
        shown += _least_sum(task.goal[place], box[place], table)
    return cost == shown


def _are_prices(value):
    if not isinstance(value, tuple) or not all([is_integers(pair, 2) and pair[1] > 0 for pair in value]):
        return False
    return all([one[0] < other[0] for one, other in zip(value, value[1:])])


def _least_sum(times, pair, table):
    """The least sum of a value's cost and price over all values of a pair."""
    low, high = pair
    sums = [times * item + price for item, price in table.items() if low <= item <= high]
    # Of the values without a price, the one next to the cheaper end costs least.
    step = 1 if times >= 0 else -1
    free = low if times >= 0 else high
    while free in table:
        free += step
    if low <= free <= high:
        sums.append(times * free)
    return min(sums)


def cheapest_unlike(task, number, box):
    """Some cheapest point of the box that keeps an unlike, with prices that show it, or None."""
    places = checked_wish(task, number, ("unlike",))[1]
    costs = {}
    for place in places:
        times = task.goal[place]
        costs[place] = {item: times * item for item in _candidates(times, box[place], len(places) + 1)}
    owners = {}
    prices = {}
    if not assigned(costs, owners, prices):
        return None
    values = [low for low, _ in box]
    for item, place in owners.items():
        values[place] = item
    return (tuple(values), tuple([(item, prices[item]) for item in sorted(prices) if prices[item] > 0]))


def assigned(costs, owners, prices):
    """Give each unknown one of its values, all unlike, so that they cost least; return whether there is a way.

    The costs are dicts from values to costs, one for each unknown; the owners of values and the prices that show
    that nothing costs less are put into dicts.
    """
    shares = {}
    for place in costs:
        if not _placed(place, costs, owners, prices, shares):
            return False
    return True


def _candidates(times, pair, many):
    """So many values from the cheaper end of a pair on, or all."""
    low, high = pair
    if times >= 0:
        return list(range(low, min(high, low + many - 1) + 1))
    return list(range(high, max(low, high - many + 1) - 1, -1))


def _placed(place, costs, owners, prices, shares):
    """Give an unknown a value, so that others may have to change theirs; return whether there is a way.

    A share is the least sum of cost and price of an unknown; where it has its value, the share is met.
    Ways go over values by what they exceed the shares, the shortest first; then prices and shares are
    put so that no sum is below a share, and those on the way are met.
    """
    shares[place] = min([cost + prices.get(item, 0) for item, cost in costs[place].items()])
    far = {}
    before = {}
    settled = {}
    at, done = place, 0
    while True:
        for item, cost in costs[at].items():
            length = done + cost + prices.get(item, 0) - shares[at]
            if item not in settled and (item not in far or length < far[item]):
                far[item] = length
                before[item] = at
        waiting = [(length, item) for item, length in far.items() if item not in settled]
        if not waiting:
            return False
        done, item = min(waiting)
        settled[item] = done
        if item not in owners:
            break
        at = owners[item]
    _put_prices(place, settled, done, owners, prices, shares)
    _put_owners(place, item, before, owners)
    return True


def _put_prices(place, settled, done, owners, prices, shares):
    shares[place] += done
    for item, length in settled.items():
        if item in owners:
            prices[item] = prices.get(item, 0) + done - length
            shares[owners[item]] += done - length


def _put_owners(place, item, before, owners):
    """Give each value of the way to the unknown that came to it."""
    values = {owner: value for value, owner in owners.items()}
    while True:
        owner = before[item]
        owners[item] = owner
        if owner == place:
            return
        item = values[owner]
