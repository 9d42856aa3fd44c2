"""Programs as texts: the lines that are written, and the reading of them."""

from looptimes.errors import BadText
from looptimes.kinds import is_numeral, is_word, numeral_value
from looptimes.rows import lists_of

# What follows the first string of a line: words (w) and numbers (n).
FORMS = {
    "late": "n", "counter": "wnn", "task": "w",
    "work": "nn", "say": "w", "pass": "", "sleep": "n", "take": "w", "give": "w",
    "either": "", "ever": "", "within": "n", "or": "", "end": "",
}


def row_lines(rows):
    """Return the lines of a list of rows."""
    out = []
    for row in rows:
        inner = lists_of(row)
        out.append(" ".join([str(item) for item in row[:len(row) - len(inner)]]))
        for at, part in enumerate(inner):
            if at > 0:
                out.append("or")
            out.extend(row_lines(part))
        if len(inner) > 0:
            out.append("end")
    return out


def read_text(text):
    """Return the Reader that has read the text whole."""
    if not isinstance(text, str):
        raise BadText(1)
    lines = text.split("\n")
    # What follows the last line feed: nothing, or a line without one.
    rest = lines.pop()
    reader = Reader()
    for at, line in enumerate(lines):
        items = _items(line)
        if items is None or not reader.takes(items):
            raise BadText(at + 1)
    if rest != "" or not reader.is_whole():
        raise BadText(len(lines) + 1)
    return reader


def _items(line):
    """Return the items of a line, numbers as integers, or None if the line has no form."""
    first, *parts = line.split(" ")
    form = FORMS.get(first)
    if form is None or len(parts) != len(form):
        return None
    out = [first]
    for sign, part in zip(form, parts):
        if not (is_word(part) if sign == "w" else is_numeral(part)):
            return None
        out.append(part if sign == "w" else numeral_value(part))
    return out


class Reader:
    """Takes the lines of a text one after the other."""

    def __init__(self):
        self.late = None
        self.triples = []
        self.pairs = []
        self.unclosed = []

    def is_whole(self):
        """Tell whether the text can end here."""
        return len(self.pairs) > 0 and len(self.unclosed) == 0

    def takes(self, items):
        """Tell whether a line with these items can stand here, and take it in if it can."""
        first = items[0]
        if first == "late" or self.late is None:
            return self._takes_late(items)
        if first == "counter":
            return self._takes_counter(items)
        if first == "task":
            return self._takes_task(items)
        if first == "or":
            return len(self.unclosed) > 0 and self.unclosed[-1].turns()
        if first == "end":
            return self._takes_end()
        return self._takes_row(items)

    def _takes_late(self, items):
        if items[0] != "late" or self.late is not None:
            return False
        self.late = items[1]
        return True

    def _takes_counter(self, items):
        if len(self.pairs) > 0:
            return False
        self.triples.append((items[1], items[2], items[3]))
        return True

    def _takes_task(self, items):
        if len(self.unclosed) > 0:
            return False
        self.pairs.append((items[1], []))
        return True

    def _takes_end(self):
        if len(self.unclosed) == 0 or not self.unclosed[-1].is_complete():
            return False
        self.unclosed.pop()
        return True

    def _takes_row(self, items):
        if len(self.pairs) == 0:
            return False
        rows = self.unclosed[-1].current() if len(self.unclosed) > 0 else self.pairs[-1][1]
        if items[0] in ("ever", "either", "within"):
            unclosed = Unclosed(items)
            self.unclosed.append(unclosed)
            rows.append(unclosed.whole)
        else:
            rows.append(items)
        return True


class Unclosed:
    """A row whose `end` has not been read."""

    def __init__(self, items):
        self.lists = [[]] if items[0] == "ever" else [[], []]
        self.whole = [*items, *self.lists]
        self.at = 0

    def current(self):
        """Return the list to which the next row belongs."""
        return self.lists[self.at]

    def is_complete(self):
        """Tell whether the row can end here."""
        return self.at == len(self.lists) - 1

    def turns(self):
        """Tell whether an `or` can stand here, and go on with the second list if it can."""
        if self.is_complete():
            return False
        self.at = 1
        return True
