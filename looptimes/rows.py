"""Lists of rows: their shapes, copies and numbers.

Within a Program a list of rows is a tuple of rows, each row a tuple; so nobody can change it.
"""

from looptimes.kinds import is_integer, is_list

# How many items a row has, the string that it begins with included.
SIZES = {
    "work": 3, "say": 2, "pass": 1, "sleep": 2, "take": 2, "give": 2,
    "either": 3, "ever": 2, "within": 4,
}

# Behind how many items the lists of a row begin.
LISTS_FROM = {"either": 1, "ever": 1, "within": 2}


def lists_of(row):
    """Return the items of a row that are lists of rows."""
    start = LISTS_FROM.get(row[0], len(row))
    return list(row[start:])


def frozen(rows):
    """Return a copy of lists in lists as tuples."""
    return tuple([frozen(item) if is_list(item) else item for item in rows])


def opened_row(row):
    """Return a copy of a frozen row as a tuple, with lists of tuples inside."""
    return tuple([opened(item) if is_list(item) else item for item in row])


def opened(rows):
    """Return a copy of frozen rows as a list of tuples, with lists of tuples inside."""
    return [opened_row(row) for row in rows]


def row_size(row):
    """Return the number of rows that a row and those inside it are."""
    return 1 + sum([size(rows) for rows in lists_of(row)])


def size(rows):
    """Return the number of the rows and those inside them."""
    return sum([row_size(row) for row in rows])


def multiplied(rows, k):
    """Return the frozen rows with all numbers multiplied by k."""
    return tuple([_multiplied_row(row, k) for row in rows])


def _multiplied_row(row, k):
    out = []
    for item in row:
        if is_list(item):
            out.append(multiplied(item, k))
        else:
            out.append(item * k if is_integer(item) else item)
    return tuple(out)


def replaced(rows, start, place, row):
    """Return the frozen rows, numbered from start, with another row at the place."""
    out = []
    for old in rows:
        if start == place:
            out.append(row)
        else:
            out.append(_replaced_inside(old, start, place, row))
        start = start + row_size(old)
    return tuple(out)


def _replaced_inside(old, start, place, row):
    out = list(old[:len(old) - len(lists_of(old))])
    start = start + 1
    for rows in lists_of(old):
        out.append(replaced(rows, start, place, row))
        start = start + size(rows)
    return tuple(out)


def surely_waits(rows):
    """Tell whether a task that does these rows comes to wait in every case."""
    return any([_row_surely_waits(row) for row in rows])


def _row_surely_waits(row):
    if row[0] in ("sleep", "pass", "ever"):
        return True
    if row[0] == "either":
        return surely_waits(row[1]) and surely_waits(row[2])
    return row[0] == "within" and surely_waits(row[2])
