"""Weighted times over a web.

A factor is what one unit of time counts in a standing; the gain of a step is the factor times its time.
"""

from looptimes.shapes import keyed
from looptimes.kinds import is_integer


def gain_graph(web, factors):
    """Return for each standing the pairs (number of a next one, greatest gain of a step to it)."""
    return [_gains_from(web, number, factor) for number, factor in enumerate(factors)]


def _gains_from(web, number, factor):
    gains = {}
    for _, time, after in web.arrows_from(number):
        gain = factor * time
        if after not in gains or gain > gains[after]:
            gains[after] = gain
    return list(gains.items())


def best_events(web, numbers, factors):
    """Return the events of the steps with the greatest gain from each of the standings to the one behind it."""
    out = []
    for number, target in zip(numbers, numbers[1:]):
        best = None
        for event, time, after in web.arrows_from(number):
            if after == target and (best is None or factors[number] * (time - best[0]) > 0):
                best = event
        out.append(best)
    return out


def told_heights(web, heights):
    """Return the heights that a list of any objects tells: a dict from the numbers of standings to integers."""
    told = {}
    for item in heights:
        pair = keyed(item)
        if pair is not None and is_integer(pair[1]):
            number = web.numbers.get(pair[0])
            if number is not None and number not in told:
                told[number] = pair[1]
    return told


def are_heights(graph, numbers, told):
    """Tell whether these numbers all have heights, which along each arrow of the graph grow at least by its gain."""
    if not all([number in told for number in numbers]):
        return False
    for number in numbers:
        for target, gain in graph[number]:
            if told[target] < told[number] + gain:
                return False
    return True
