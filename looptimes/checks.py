"""The checks of what a Program is made from, in the order in which the errors are named."""

from looptimes.errors import BadCounter, BadLate, BadRow, BadTask
from looptimes.kinds import is_between, is_list, is_word
from looptimes.rows import SIZES, lists_of, surely_waits

MOST_TASKS = 3
MOST_COUNTERS = 2
MOST_ROWS = 12
MOST_ROOM = 9
MOST_TIME = 99


def check_program(tasks, counters, late):
    """Raise the first error of these three; return nothing if there is none."""
    _check_tasks(tasks)
    _check_counters(counters)
    if not is_between(late, 0, MOST_TIME):
        raise BadLate(late)
    names = [counter[0] for counter in counters]
    for name, rows in tasks:
        RowCheck(name, names).check(rows, False)
    for name, rows in tasks:
        _check_waits(name, rows, 0)


def _check_tasks(tasks):
    if not is_list(tasks) or len(tasks) == 0:
        raise BadTask(0)
    names = []
    for index, task in enumerate(tasks):
        if index == MOST_TASKS or not _is_task(task, names):
            raise BadTask(index)
        names.append(task[0])


def _is_task(task, names):
    if not is_list(task) or len(task) != 2:
        return False
    return is_word(task[0]) and task[0] not in names and is_list(task[1])


def _check_counters(counters):
    if not is_list(counters):
        raise BadCounter(0)
    names = []
    for index, counter in enumerate(counters):
        if index == MOST_COUNTERS or not _is_counter(counter, names):
            raise BadCounter(index)
        names.append(counter[0])


def _is_counter(counter, names):
    if not is_list(counter) or len(counter) != 3:
        return False
    name, start, room = counter
    if not is_word(name) or name in names:
        return False
    return is_between(room, 1, MOST_ROOM) and is_between(start, 0, room)


class RowCheck:
    """Looks at the rows of one task in the order of their numbers."""

    def __init__(self, name, counter_names):
        self.name = name
        self.counter_names = counter_names
        self.place = 0

    def check(self, rows, guarded):
        """Check a list of rows; guarded tells whether it is inside a `within`."""
        # A row is checked before those inside it are touched: what is passed may contain itself.
        for at, row in enumerate(rows):
            reason = self._fault(row)
            if reason is None and row[0] == "within" and guarded:
                reason = "nested"
            if reason is None and row[0] == "ever" and at < len(rows) - 1:
                reason = "last"
            if reason is not None:
                raise BadRow(self.name, self.place, reason)
            self.place = self.place + 1
            for inner in lists_of(row):
                self.check(inner, guarded or row[0] == "within")

    def _fault(self, row):
        if self.place == MOST_ROWS:
            return "many"
        if not _is_row(row):
            return "row"
        if not _has_good_numbers(row):
            return "number"
        if row[0] == "say" and not is_word(row[1]):
            return "word"
        if row[0] in ("take", "give") and row[1] not in self.counter_names:
            return "counter"
        if not all([is_list(rows) for rows in lists_of(row)]):
            return "rows"
        return None


def _is_row(row):
    if not is_list(row) or len(row) == 0 or not isinstance(row[0], str):
        return False
    return row[0] in SIZES and len(row) == SIZES[row[0]]


def _has_good_numbers(row):
    if row[0] == "work":
        return is_between(row[2], 0, MOST_TIME) and is_between(row[1], 0, row[2])
    if row[0] in ("sleep", "within"):
        return is_between(row[1], 1, MOST_TIME)
    return True


def _check_waits(name, rows, place):
    """Check the rows, numbered from the place; return the number behind them."""
    for row in rows:
        if row[0] == "ever" and not surely_waits(row[1]):
            raise BadRow(name, place, "waits")
        place = place + 1
        for inner in lists_of(row):
            place = _check_waits(name, inner, place)
    return place
