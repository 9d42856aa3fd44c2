"""Standings, and the steps from one to the next in whole numbers.

A standing is a tuple (turn, ready, states, counters) with all times counted from now. Those that
are passed can have lists for tuples; those that are returned are made anew of tuples.
"""

from looptimes.looks import look_times, takings
from looptimes.scenes import later
from looptimes.turns import doings, work_times


def start(program):
    """Return the standing ahead of the first look."""
    ready = tuple(range(len(program)))
    states = tuple([(0, "ready", 0, 0, 0) for _ in ready])
    counters = tuple([(level, ()) for _, level, _ in program.counters()])
    return ((), ready, states, counters)


def steps(program, standing):
    """Return all that can happen next, as triples (event, time, next standing)."""
    if len(standing[0]) == 0:
        return _look_steps(program, standing)
    return _turn_steps(program, standing)


def _look_steps(program, standing):
    times = look_times(program, standing)
    if times is None:
        return []
    out = []
    for time in range(times[0], times[1] + 1):
        for taken, after in takings(program, later(standing, time)):
            out.append(((time, None, taken), time, after))
    return out


def _turn_steps(program, standing):
    number = standing[0][0]
    name = program.names()[number]
    low, high = work_times(program, standing)
    out = []
    for what, after in doings(program, standing):
        for time in range(low, high + 1):
            out.append(((time, name, what), time, later(after, time)))
    return out
