"""What happens in a run, as moves: tuples (event, time, word, standing).

The event is as in a run, with tuples alone; the time is what passes from the event ahead of it; the
word is the one that it says, or None; the standing is the one behind it. All numbers are plain.
"""

from looptimes.errors import BadEvent
from looptimes.kinds import is_integer, is_list
from looptimes.looks import look_times, look_with
from looptimes.scenes import later
from looptimes.spans import is_number, plain
from looptimes.standings import start
from looptimes.turns import doings, word_at, work_times


def moves_with(program, moves, events):
    """Return the moves with those that the further events, any object, make."""
    if not is_list(events):
        raise BadEvent(len(moves))
    out = list(moves)
    for event in events:
        move = _move(program, out, event)
        if move is None:
            raise BadEvent(len(out))
        out.append(move)
    return tuple(out)


def last_moment(moves):
    """Return the moment of the last event."""
    if len(moves) == 0:
        return 0
    return moves[-1][0][0]


def last_standing(program, moves):
    """Return the standing behind the last event."""
    if len(moves) == 0:
        return start(program)
    return moves[-1][3]


def _move(program, moves, event):
    """Return the move that the event makes, or None if it cannot come next."""
    if not is_list(event) or len(event) != 3 or not is_number(event[0]):
        return None
    moment, who, what = event
    time = plain(moment - last_moment(moves))
    standing = last_standing(program, moves)
    if len(standing[0]) == 0:
        told, after = _looked(program, standing, time, who, what)
    else:
        told, after = _done(program, standing, time, who, what)
    if after is None:
        return None
    return ((plain(moment), who, told), time, word_at(program, standing), _with_plain_numbers(after))


def _looked(program, standing, time, who, what):
    """Return what is taken and the standing behind the look, or None for both if this is no look."""
    times = look_times(program, standing)
    items = _items(what)
    if who is not None or items is None or times is None or not times[0] <= time <= times[1]:
        return None, None
    return items, look_with(program, later(standing, time), items)


def _items(what):
    """Return what is taken as a tuple of pairs of any objects, or None if it is not such a list."""
    if not is_list(what):
        return None
    out = []
    for item in what:
        if not is_list(item) or len(item) != 2:
            return None
        out.append(tuple(item))
    return tuple(out)


def _done(program, standing, time, who, what):
    """Return what the running task does and the standing behind it, or None for both if it cannot do this."""
    low, high = work_times(program, standing)
    if not isinstance(who, str) or who != program.names()[standing[0][0]] or not low <= time <= high:
        return None, None
    for told, after in doings(program, standing):
        if _means(what, told):
            return told, later(after, time)
    return None, None


def _means(what, told):
    """Tell whether any object is this place, or this pair of a place and a branch."""
    if isinstance(told, tuple):
        return is_list(what) and len(what) == 2 and _means(what[0], told[0]) and _means(what[1], told[1])
    return is_integer(what) and what == told


def _with_plain_numbers(standing):
    turn, ready, states, counters = standing
    return (turn, ready, tuple([_plain_state(state) for state in states]), counters)


def _plain_state(state):
    place, word, rest, missed, left = state
    return (place, word, plain(rest), missed, plain(left))
