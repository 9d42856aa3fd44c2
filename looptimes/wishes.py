"""Wishes: whether a run can break them."""

from looptimes.errors import BadPlace, BadRun
from looptimes.shapes import keyed
from looptimes.kinds import is_list
from looptimes.marks import BROKEN, checked_wish, first_mark, is_rest_broken, mark_behind
from looptimes.runs import Run
from looptimes.searches import Search

# How much more than the least a work or a look is tried with, and the greatest time of a row.
MOST_MORE = 20
MOST_TIME = 99


def judge(program, wish):
    """Return a shortest run that breaks the wish, or all pairs (standing, mark) if there is none."""
    search = Search(program, checked_wish(wish))
    events = search.broken_run()
    if events is not None:
        return ("broken", events)
    return ("holds", search.found_pairs())


def is_closed(program, wish, pairs):
    """Tell whether any object is a list of pairs that shows that the wish cannot be broken."""
    search = Search(program, checked_wish(wish))
    if not is_list(pairs):
        return False
    told = {keyed(pair): True for pair in pairs}
    if search.broken_run() is not None:
        return False
    return all([pair in told for pair in search.found_pairs()])


def is_broken(wish, run):
    """Tell whether the run breaks the wish."""
    told = checked_wish(wish)
    if not isinstance(run, Run):
        raise BadRun()
    mark = first_mark(told)
    for _, time, word, _ in run.moves:
        mark = mark_behind(told, mark, time, word)
        if mark == BROKEN:
            return True
    return is_rest_broken(run.program, told, run.standing())


def slowest(program, name, place, wish):
    """Return the greatest time of a work row with which the wish cannot be broken, or None."""
    row = program.row(name, place)
    if row[0] != "work":
        raise BadPlace(place)
    told = checked_wish(wish)
    low = row[1]
    highs = list(range(low, MOST_TIME + 1))[:MOST_MORE + 1]
    many = _many_safe([program.with_row(name, place, ("work", low, high)) for high in highs], told)
    return None if many == 0 else highs[many - 1]


def latest(program, wish):
    """Return the greatest lateness with which the wish cannot be broken, or None."""
    told = checked_wish(wish)
    many = _many_safe([program.with_late(late) for late in range(MOST_MORE + 1)], told)
    return None if many == 0 else many - 1


def _many_safe(programs, wish):
    """Return how many of the programs, each slower than the one ahead, cannot break the wish."""
    low = 0
    high = len(programs)
    while low < high:
        middle = (low + high) // 2
        search = Search(programs[middle], wish)
        if search.broken_run() is None:
            low = middle + 1
        else:
            high = middle
    return low
