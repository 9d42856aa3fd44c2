"""Programs: tasks with rows, counters and a lateness."""

from looptimes.checks import check_program
from looptimes.errors import BadPart, BadPlace, UnknownTask
from looptimes.kinds import is_between, is_integer
from looptimes.plans import Plan
from looptimes.rows import frozen, multiplied, opened, opened_row, replaced
from looptimes.texts import read_text, row_lines


class Program:
    """One to three tasks on one loop, up to two counters, and a lateness.

    `plans` are the plans of the tasks, for the other files of the package.
    """

    def __init__(self, tasks, counters=(), *, late=0):
        check_program(tasks, counters, late)
        self.late = late
        self.plans = tuple([Plan(name, frozen(rows)) for name, rows in tasks])
        self._counters = frozen(counters)

    def names(self):
        """Return the list of the names of the tasks."""
        return [plan.name for plan in self.plans]

    def counters(self):
        """Return the list of the triples (name, start, room) of the counters."""
        return list(self._counters)

    def __getitem__(self, at):
        return opened(self._plan(at).rows)

    def __iter__(self):
        raise TypeError("a program is not iterated over")

    def __contains__(self, x):
        return x in self.names()

    def __len__(self):
        return len(self.plans)

    def __eq__(self, other):
        if not isinstance(other, Program):
            return False
        return self._whole() == other._whole()

    def slower(self, k):
        """Return the program in which all times are multiplied by k."""
        if not is_integer(k) or k < 1:
            raise BadPart(k)
        tasks = [(plan.name, multiplied(plan.rows, k)) for plan in self.plans]
        return Program(tasks, self._counters, late=self.late * k)

    def row(self, name, place):
        """Return the row with this number."""
        return opened_row(self._plan_with(name, place).flat[place])

    def with_row(self, name, place, row):
        """Return the program with another row at the place."""
        changed = self._plan_with(name, place)
        tasks = []
        for plan in self.plans:
            rows = replaced(plan.rows, 0, place, row) if plan.name == changed.name else plan.rows
            tasks.append((plan.name, rows))
        return Program(tasks, self._counters, late=self.late)

    def with_late(self, late):
        """Return the program with another lateness."""
        return Program([(plan.name, plan.rows) for plan in self.plans], self._counters, late=late)

    def text(self):
        """Return the program as a text."""
        lines = [f"late {self.late}"]
        for name, start, room in self._counters:
            lines.append(f"counter {name} {start} {room}")
        for plan in self.plans:
            lines.append(f"task {plan.name}")
            lines.extend(row_lines(plan.rows))
        return "".join([line + "\n" for line in lines])

    @staticmethod
    def of_text(text):
        """Return the program with this text."""
        reader = read_text(text)
        return Program(reader.pairs, reader.triples, late=reader.late)

    def _whole(self):
        """Return all that makes the program what it is."""
        return ([(plan.name, plan.rows) for plan in self.plans], self._counters, self.late)

    def _plan(self, name):
        for plan in self.plans:
            if plan.name == name:
                return plan
        raise UnknownTask(name)

    def _plan_with(self, name, place):
        """Return the plan of the task, of which the place must be the number of a row."""
        plan = self._plan(name)
        if not is_between(place, 0, plan.end - 1):
            raise BadPlace(place)
        return plan
