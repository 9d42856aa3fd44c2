"""Standings, and the steps from one to the next in whole numbers.

A standing is a tuple (turn, ready, states, counters) with all times counted from now. Those that
are passed can have lists for tuples; those that are returned are made anew of tuples.
"""

from looptimes.looks import look_times, takings
from looptimes.scenes import later
from looptimes.turns import doings


def start(program):
    """Return the standing ahead of the first look."""
    ready = tuple(range(len(program)))
    states = tuple([(0, "ready", 0, 0, 0) for _ in ready])
    counters = tuple([(level, ()) for _, level, _ in program.counters()])
    return ((), ready, states, counters)


def steps(program, standing):
    """Return all that can happen next, as triples (event, time, next standing)."""
    if len(standing[0]) == 0:
        return _look_steps(program, standing)
    return _turn_steps(program, standing)


def _look_steps(program, standing):
    times = look_times(program, standing)
    if times is None:
        return []
    out = []
    for time in range(times[0], times[1] + 1):
        for taken, after in takings(program, later(standing, time)):
            out.append(((time, None, taken), time, after))
    return out


def _turn_steps(program, standing):
    number = standing[0][0]
    name = program.names()[number]
    low, high = _work_times(program.plans[number], standing[2][number][0])
    out = []
    for what, after in doings(program, standing):
        for time in range(low, high + 1):
            out.append(((time, name, what), time, later(after, time)))
    return out


def _work_times(plan, place):
    """Return the least and the greatest time that the row takes."""
    if place == plan.end or plan.flat[place][0] != "work":
        return 0, 0
    return plan.flat[place][1], plan.flat[place][2]
