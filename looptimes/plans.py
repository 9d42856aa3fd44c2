"""The rows of a task by their places."""

from looptimes.rows import lists_of, size

# What stands for the place of a `within` where there is none.
UNGUARDED = -1


class Plan:
    """The places of one task.

    `flat[p]` is the row with the number p and `behinds[p]` the place behind it; `firsts[p]` are the
    first places of its lists; `guards[p]` is the place of the `within` among whose first rows it is.
    `end` is the place END.
    """

    def __init__(self, name, rows):
        self.name = name
        self.rows = rows
        self.end = size(rows)
        self.flat = []
        self.behinds = []
        self.firsts = []
        self.guards = []
        self._lay(rows, self.end, UNGUARDED)
        self.guards.append(UNGUARDED)

    def _lay(self, rows, behind, guard):
        """Number the rows of a list; `behind` is the place behind the last of them."""
        place = len(self.flat)
        for at, row in enumerate(rows):
            place = place + size([row])
            self._add(row, behind if at == len(rows) - 1 else place, guard)

    def _add(self, row, behind, guard):
        place = len(self.flat)
        self.flat.append(row)
        self.behinds.append(behind)
        self.firsts.append(_first_places(row, place, behind))
        self.guards.append(guard)
        if row[0] == "ever":
            self._lay(row[1], place + 1, guard)
        elif row[0] == "either":
            self._lay(row[1], behind, guard)
            self._lay(row[2], behind, guard)
        elif row[0] == "within":
            self._lay(row[2], behind, place)
            self._lay(row[3], behind, guard)


def _first_places(row, place, behind):
    """Return the first place of each list of a row; that of an empty list is behind the row."""
    out = []
    place = place + 1
    for rows in lists_of(row):
        out.append(behind if len(rows) == 0 else place)
        place = place + size(rows)
    return tuple(out)
