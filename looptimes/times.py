"""The greatest weighted times: of stretches, and for each unit of time in the long run."""

from looptimes.climbs import Climb, order_from
from looptimes.errors import BadWord
from looptimes.gains import are_heights, best_events, gain_graph, told_heights
from looptimes.kinds import is_integer, is_list, is_word
from looptimes.spans import Span, is_number, plain
from looptimes.stretches import Stretches
from looptimes.webs import told_events, way_to, ways_from, whole_web
from looptimes.weights import checked_weights, rate

# Less than any weights give for a unit of time.
LEAST_PACE = -1000


def most(program, weights, a, b):
    """Return the greatest weighted time from an event that says a to the next one that says b."""
    rates = _checked(program, weights, a, b)
    web = whole_web(program)
    factors = _factors(web, rates)
    stretches = Stretches(web, a, b)
    if len(stretches.ends) == 0:
        return ("none",)
    graph = stretches.graph_within(gain_graph(web, factors))
    heights = [None for _ in graph]
    for number in stretches.starts:
        heights[number] = 0
    climb = Climb(graph, order_from(graph, stretches.starts), heights)
    circles = climb.circles()
    if len(circles) > 0:
        return _growing(stretches, circles[0], factors)
    return _greatest(stretches, climb, factors)


def is_most(program, weights, a, b, number, heights):
    """Tell whether any objects are a number and heights that show that no stretch has more."""
    rates = _checked(program, weights, a, b)
    if not is_integer(number) or not is_list(heights):
        return False
    web = whole_web(program)
    stretches = Stretches(web, a, b)
    graph = stretches.graph_within(gain_graph(web, _factors(web, rates)))
    told = told_heights(web, heights)
    if not are_heights(graph, list(stretches.inside), told):
        return False
    if not all([told[begin] >= 0 for begin in stretches.starts]):
        return False
    # A step that says a word takes no time.
    return all([told[end] <= number for end in stretches.ends])


def pace(program, weights):
    """Return the greatest weighted time for each unit of time in the long run."""
    rates = checked_weights(program, weights)
    web = whole_web(program)
    worths = _factors(web, rates)
    order = order_from(gain_graph(web, worths), [0])
    number, begin, chain = Span(LEAST_PACE), None, []
    while True:
        factors = _factors_above(worths, number)
        climb = Climb(gain_graph(web, factors), order, [0 for _ in worths])
        circles = climb.circles()
        if len(circles) == 0:
            break
        number, begin, chain = _best_round(web, worths, factors, circles)
    if begin is None:
        return ("ends",)
    ahead = way_to(ways_from(web, [0], None), begin)[1]
    heights = list(zip(web.standings, climb.heights))
    return ("pace", plain(number), told_events([*ahead, *chain]), len(ahead) - 1, heights)


def is_pace(program, weights, number, heights):
    """Tell whether any objects are a number and heights that show that there is no more in the long run."""
    rates = checked_weights(program, weights)
    if not is_number(number) or not is_list(heights):
        return False
    web = whole_web(program)
    graph = gain_graph(web, _factors_above(_factors(web, rates), Span(0) + number))
    return are_heights(graph, list(range(len(graph))), told_heights(web, heights))


def _checked(program, weights, a, b):
    """Return the rates that the weights stand for; all three can be any objects."""
    rates = checked_weights(program, weights)
    if a is not None and not is_word(a):
        raise BadWord(a)
    if not is_word(b):
        raise BadWord(b)
    return rates


def _factors(web, rates):
    return [rate(rates, standing) for standing in web.standings]


def _factors_above(factors, span):
    """Return the factors with which the number of the span would count as 0, in whole numbers."""
    return [span.under * factor - span.over for factor in factors]


def _greatest(stretches, climb, factors):
    """Return the answer of most if there is a greatest stretch."""
    best = stretches.ends[0]
    for end in stretches.ends:
        if climb.heights[end] > climb.heights[best]:
            best = end
    numbers = [best]
    while climb.parents[numbers[-1]] is not None:
        numbers.append(climb.parents[numbers[-1]])
    numbers = numbers[::-1]
    ahead = stretches.steps_ahead(numbers[0])
    inside = [*best_events(stretches.web, numbers, factors), *stretches.steps_on(best)]
    events = told_events([*ahead, *inside])
    heights = [(stretches.web.standings[number], climb.heights[number]) for number in stretches.inside]
    return ("most", climb.heights[best], events, len(ahead) - 1, heights)


def _growing(stretches, circle, factors):
    """Return the answer of most if stretches can go round a circle with a sum above 0."""
    begin, inside = stretches.steps_to(circle[0])
    ahead = [*stretches.steps_ahead(begin), *inside]
    rounds = best_events(stretches.web, [*circle, circle[0]], factors)
    events = told_events([*ahead, *rounds, *stretches.steps_on(circle[0])])
    return ("grows", events, len(ahead) - 1, len(ahead) + len(rounds) - 1)


def _best_round(web, worths, factors, circles):
    """Return the greatest weighted time for a unit of time on one of the circles, where it begins, and its events."""
    best = None
    for circle in circles:
        chain = best_events(web, [*circle, circle[0]], factors)
        time = 0
        total = 0
        for number, event in zip(circle, chain):
            time = time + event[0]
            total = total + worths[number] * event[0]
        span = Span(total, time)
        if best is None or span > best[0]:
            best = (span, circle[0], chain)
    return best
