"""Wishes, and the marks that tell how near they are to being broken.

A mark is what has to be kept of a run for a wish; BROKEN stands for the mark behind an event that breaks it.
"""

from looptimes.errors import BadWish
from looptimes.kinds import is_between, is_list, is_word
from looptimes.looks import look_times

BROKEN = None
MOST_DELAY = 9999

# What follows the first string of a wish: words (w) and a number (n).
FORMS = {"never": "w", "first": "ww", "between": "www", "soon": "wwn", "late": "wwn", "free": ""}

# The mark that tells that there is no event to which `soon` is counted.
NOTHING = -1


def checked_wish(wish):
    """Return the wish as a tuple; it can be any object."""
    if not _is_wish(wish):
        raise BadWish()
    return tuple(wish)


def first_mark(wish):
    """Return the mark of the empty run."""
    if wish[0] == "soon":
        return NOTHING
    return 0


def mark_behind(wish, mark, time, word):
    """Return the mark behind an event, the time of which has passed and which says the word or (None) nothing."""
    action = ACTIONS[wish[0]]
    return action(wish, mark, time, word)


def is_rest_broken(program, wish, standing):
    """Tell whether the wish is broken since the program has come to rest in the standing."""
    if wish[0] != "free" or len(standing[0]) > 0 or look_times(program, standing) is not None:
        return False
    return "takes" in [state[1] for state in standing[2]]


def _is_wish(wish):
    if not is_list(wish) or len(wish) == 0 or not isinstance(wish[0], str):
        return False
    form = FORMS.get(wish[0])
    if form is None or len(wish) != 1 + len(form):
        return False
    for sign, item in zip(form, wish[1:]):
        if not (is_word(item) if sign == "w" else is_between(item, 0, MOST_DELAY)):
            return False
    return wish[0] not in ("first", "between") or wish[1] != wish[2]


def _never(wish, mark, time, word):
    return BROKEN if word == wish[1] else mark


def _first(wish, mark, time, word):
    if word == wish[2] and mark == 0:
        return BROKEN
    return 1 if word == wish[1] else mark


def _between(wish, mark, time, word):
    if word == wish[3] and mark == 1:
        return BROKEN
    if word == wish[1]:
        return 1
    return 0 if word == wish[2] else mark


def _soon(wish, mark, time, word):
    if mark != NOTHING:
        mark = mark - time
        if mark < 0:
            return BROKEN
    if word == wish[2]:
        mark = NOTHING
    # The earliest event counts, so a later one does not change the mark.
    if word == wish[1] and mark == NOTHING:
        mark = wish[3]
    return mark


def _late(wish, mark, time, word):
    mark = max(0, mark - time)
    if word == wish[2] and mark > 0:
        return BROKEN
    return wish[3] if word == wish[1] else mark


def _free(wish, mark, time, word):
    return mark


# The actions get the wish, the mark ahead of the event, its time and its word.
ACTIONS = {
    "never": _never, "first": _first, "between": _between, "soon": _soon, "late": _late, "free": _free,
}
