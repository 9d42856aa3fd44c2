"""Standings, and scenes: standings that can be changed."""


def later(standing, time):
    """Return the standing when time has passed and nothing else has happened."""
    turn, ready, states, counters = standing
    return (turn, ready, tuple([_later_state(state, time) for state in states]), counters)


def _later_state(state, time):
    place, word, rest, missed, left = state
    if word == "sleeps":
        rest = rest - time
    if missed == 1:
        left = left - time
    return (place, word, rest, missed, left)


class Actor:
    """What a standing says of one task."""

    def __init__(self, plan, state):
        self.plan = plan
        self.place, self.word, self.rest, self.missed, self.left = state

    def present_row(self):
        """Return the row at its place."""
        return self.plan.flat[self.place]

    def move(self, place):
        """Come to the place; a deadline that does not belong to it is gone."""
        self.place = place
        if self.plan.guards[place] < 0:
            self.missed = 0
            self.left = 0

    def move_behind(self):
        """Come to the place behind the row."""
        self.move(self.plan.behinds[self.place])

    def leave_within(self):
        """Come to the first place of the second rows of the `within` whose first rows it does."""
        self.move(self.plan.firsts[self.plan.guards[self.place]][1])

    def state(self):
        """Return the state of the task as it stands in a standing."""
        return (self.place, self.word, self.rest, self.missed, self.left)


class Scene:
    """A standing of which the parts can be changed."""

    def __init__(self, program, standing):
        turn, ready, states, counters = standing
        self.turn = list(turn)
        self.ready = list(ready)
        self.actors = [Actor(plan, state) for plan, state in zip(program.plans, states)]
        self.triples = program.counters()
        self.levels = [level for level, _ in counters]
        self.queues = [list(queue) for _, queue in counters]

    def runner(self):
        """Return the actor that runs."""
        return self.actors[self.turn[0]]

    def counter_number(self, name):
        """Return the number of the counter with this name."""
        return [triple[0] for triple in self.triples].index(name)

    def leave_queues(self, number):
        """Take the task off the list of the counter for which it waits."""
        self.queues = [[other for other in queue if other != number] for queue in self.queues]

    def wake(self, number):
        """Put the task, which is at the place where it goes on, on the ready list."""
        actor = self.actors[number]
        actor.word = "ready"
        actor.rest = 0
        self.ready.append(number)

    def stop(self, word):
        """End the running task's part of the turn."""
        actor = self.runner()
        actor.word = word
        self.turn.pop(0)
        self._call()

    def begin_turn(self):
        """Let those that are ready run one after the other."""
        self.turn = self.ready
        self.ready = []
        self._call()

    def _call(self):
        if len(self.turn) > 0:
            actor = self.runner()
            actor.word = "runs"

    def standing(self):
        """Return what the scene has become."""
        states = tuple([actor.state() for actor in self.actors])
        queues = [tuple(queue) for queue in self.queues]
        return (tuple(self.turn), tuple(self.ready), states, tuple(zip(self.levels, queues)))
