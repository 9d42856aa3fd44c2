"""A second account of points 16 to 19, for comparison: moments are absolute, places are paths into the rows.

A path is a row's index, then, for a row inside it, the index of the item and the row's index there, and so on;
END is None.
"""

import copy


class Task:
    def __init__(self, name, rows):
        self.name = name
        self.rows = rows
        self.numbers = {}
        self.count(rows, ())
        self.path = (0,) if rows else None
        self.word = "ready"
        self.wake = None
        self.deadline = None
        self.missed = False

    def count(self, rows, path):
        for at, row in enumerate(rows):
            self.numbers[path + (at,)] = len(self.numbers)
            for item, part in enumerate(row):
                if isinstance(part, list):
                    self.count(part, path + (at, item))

    def list_at(self, path):
        thing = self.rows
        for at in path:
            thing = thing[at]
        return thing

    def row(self):
        return self.list_at(self.path)

    def behind(self, path):
        if path[-1] + 1 < len(self.list_at(path[:-1])):
            return path[:-1] + (path[-1] + 1,)
        if len(path) == 1:
            return None
        owner = path[:-2]
        return path[:-1] + (0,) if self.list_at(owner)[0] == "ever" else self.behind(owner)

    def first(self, item):
        return self.path + (item, 0) if self.row()[item] else self.behind(self.path)

    def within(self, path):
        """Return the path of the `within` among whose first rows the place is, or None."""
        for size in range(1, len(path or ()), 2):
            if self.list_at(path[:size])[0] == "within" and path[size] == 2:
                return path[:size]
        return None

    def come(self, path):
        self.path = path
        if self.within(path) is None:
            self.deadline, self.missed = None, False

    def second_rows(self):
        self.path = self.within(self.path)
        self.come(self.first(3))

    def place(self):
        return len(self.numbers) if self.path is None else self.numbers[self.path]


class World:
    """All that is so at a moment."""

    def __init__(self, program):
        self.now = 0
        self.tasks = [Task(name, program[name]) for name in program.names()]
        self.turn = []
        self.ready = list(self.tasks)
        self.rooms = {name: room for name, _, room in program.counters()}
        self.values = {name: start for name, start, _ in program.counters()}
        self.queues = {name: [] for name in self.rooms}
        self.late = program.late

    def copied(self):
        other = copy.copy(self)
        other.tasks = [copy.copy(task) for task in self.tasks]
        twin = dict(zip(map(id, self.tasks), other.tasks))
        other.turn = [twin[id(task)] for task in self.turn]
        other.ready = [twin[id(task)] for task in self.ready]
        other.values = dict(self.values)
        other.queues = {name: [twin[id(task)] for task in queue] for name, queue in self.queues.items()}
        return other

    def standing(self):
        """Return what point 23 calls the standing."""
        return (
            tuple(self.tasks.index(task) for task in self.turn),
            tuple(self.tasks.index(task) for task in self.ready),
            tuple(self.state(task) for task in self.tasks),
            tuple((self.values[name], tuple(self.tasks.index(task) for task in self.queues[name]))
                  for name in self.rooms),
        )

    def state(self, task):
        word = "runs" if self.turn[:1] == [task] else task.word
        rest = task.wake - self.now if word == "sleeps" else 0
        live = task.deadline is not None and not task.missed
        return (task.place(), word, rest, 2 if task.missed else int(live), task.deadline - self.now if live else 0)

    def followers(self):
        """Return the pairs (event, next world), with absolute moments."""
        return self.rows_done() if self.turn else self.looks()

    def rows_done(self):
        low, high = self.work_span()
        found = []
        for moment in range(low, high + 1):
            found.extend(self.followers_at(moment))
        return found

    def word(self):
        """Return the word that is said next, if it is."""
        task = self.turn[0] if self.turn else None
        row = task.row() if task and task.path is not None else ("end",)
        return row[1] if row[0] == "say" else None

    def done(self, time, branch):
        world = self.copied()
        task = world.turn[0]
        world.now += time
        place = task.place()
        what = place if branch is None else (place, branch)
        if task.path is None:
            task.word = "ended"
            world.turn.pop(0)
        else:
            world.act(task, task.row(), branch)
        return (world.now, task.name, what), world

    def act(self, task, row, branch):
        if row[0] in ("work", "say"):
            task.come(task.behind(task.path))
        elif row[0] == "either":
            task.come(task.first(1 + branch))
        elif row[0] == "ever":
            task.come(task.first(1))
        elif row[0] == "within":
            task.come(task.first(2))
            if task.within(task.path) is not None:
                task.deadline = self.now + row[1]
        elif row[0] == "give":
            self.give(row[1])
            task.come(task.behind(task.path))
        elif row[0] == "take" and self.values[row[1]] > 0:
            self.values[row[1]] -= 1
            task.come(task.behind(task.path))
        elif task.missed:
            task.second_rows()
        else:
            self.wait(task, row)

    def give(self, name):
        if self.queues[name]:
            other = self.queues[name].pop(0)
            other.come(other.behind(other.path))
            other.word = "ready"
            self.ready.append(other)
        else:
            self.values[name] = min(self.values[name] + 1, self.rooms[name])

    def wait(self, task, row):
        self.turn.pop(0)
        if row[0] == "sleep":
            task.word, task.wake = "sleeps", self.now + row[1]
        elif row[0] == "take":
            task.word = "takes"
            self.queues[row[1]].append(task)
        else:
            task.word = "ready"
            task.come(task.behind(task.path))
            self.ready.append(task)

    def dues(self):
        sleeps = [(task.wake, at, "sleep") for at, task in enumerate(self.tasks) if task.word == "sleeps"]
        return sleeps + [(task.deadline, at, "within") for at, task in enumerate(self.tasks)
                         if task.deadline is not None and not task.missed]

    def look_spans(self):
        """Return the pairs (first moment, last moment) between which the next look can be."""
        if self.ready:
            return [(self.now, self.now)]
        spans = []
        if self.dues():
            least = min(self.dues())[0]
            if least <= self.now:
                spans.append((self.now, self.now))
            if least >= self.now:
                spans.append((least, least + self.late))
        return spans

    def looks(self):
        moments = set()
        for first, last in self.look_spans():
            moments.update(range(first, last + 1))
        found = []
        for moment in sorted(moments):
            found.extend(self.looks_at(moment))
        return found

    def looks_at(self, moment):
        world = self.copied()
        world.now = moment
        found = []
        self.add_looks(world, found)
        return found

    def work_span(self):
        """Return the first and the last moment at which what the running task does can be done."""
        task = self.turn[0]
        row = task.row() if task.path is not None else ("end",)
        return (self.now + row[1], self.now + row[2]) if row[0] == "work" else (self.now, self.now)

    def followers_at(self, moment):
        """Return the pairs (event, next world) with this moment, which can be a fraction."""
        if not self.turn:
            return self.looks_at(moment) if any(low <= moment <= high for low, high in self.look_spans()) else []
        low, high = self.work_span()
        if not low <= moment <= high:
            return []
        return [self.done(moment - self.now, branch) for branch in self.branches()]

    def branches(self):
        task = self.turn[0]
        return [0, 1] if task.path is not None and task.row()[0] == "either" else [None]

    def add_looks(self, world, found):
        unfinished = [([], world)]
        while unfinished:
            taken, world = unfinished.pop()
            dues = [due for due in world.dues() if due[0] <= world.now]
            must = any(due[0] < world.now for due in dues) or not (taken or self.ready)
            if not must:
                ended = world.copied()
                ended.turn, ended.ready = ended.ready, []
                found.append(((world.now, None, taken), ended))
            for moment, at, what in dues:
                if moment == min(dues)[0]:
                    after = world.copied()
                    after.take(after.tasks[at], what)
                    unfinished.append((taken + [(after.tasks[at].name, what)], after))

    def take(self, task, what):
        if what == "within" and task.word == "ready":
            task.missed = True
            return
        if what == "sleep":
            task.come(task.behind(task.path))
        else:
            for queue in self.queues.values():
                if task in queue:
                    queue.remove(task)
            task.second_rows()
        task.word = "ready"
        self.ready.append(task)
