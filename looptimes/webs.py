"""The standings of a program, and the ways from one to another."""

from looptimes.standings import start, steps
from looptimes.turns import word_at


class Web:
    """The standings that steps lead to, numbered as they are found, the start first.

    `words[n]` is the word that each step from the standing n says, or None.
    """

    def __init__(self, program):
        self.program = program
        self.standings = []
        self.words = []
        self.arrows = []
        self.numbers = {}
        self._number(start(program))

    def arrows_from(self, number):
        """Return the steps from a standing as triples (event, time, number of the next one)."""
        if self.arrows[number] is None:
            arrows = []
            for event, time, after in steps(self.program, self.standings[number]):
                arrows.append((event, time, self._number(after)))
            self.arrows[number] = arrows
        return self.arrows[number]

    def spread(self):
        """Find all standings."""
        number = 0
        while number < len(self.standings):
            self.arrows_from(number)
            number = number + 1

    def _number(self, standing):
        """Return the number of a standing, a new one if need be."""
        if standing not in self.numbers:
            self.numbers[standing] = len(self.standings)
            self.standings.append(standing)
            self.words.append(word_at(self.program, standing))
            self.arrows.append(None)
        return self.numbers[standing]


def whole_web(program):
    """Return the web of a program with all standings."""
    web = Web(program)
    web.spread()
    return web


def ways_from(web, roots, last_word):
    """Return how standings are reached from the roots by steps that do not say the word.

    It is a dict from their numbers, the nearest first, to the pair of the number of the standing
    ahead and the event, or None for a root. None is no word: then all steps are taken.
    """
    ways = {root: None for root in roots}
    queue = list(ways)
    at = 0
    while at < len(queue):
        number = queue[at]
        at = at + 1
        if last_word is None or web.words[number] != last_word:
            for event, _, after in web.arrows_from(number):
                if after not in ways:
                    ways[after] = (number, event)
                    queue.append(after)
    return ways


def way_to(ways, goal):
    """Return the number of the root and the list of the events from there to the goal."""
    chain = []
    while ways[goal] is not None:
        goal, event = ways[goal]
        chain.append(event)
    return goal, chain[::-1]


def told_events(chain):
    """Return the events of steps, each with its time as moment, as those of a run from the moment 0 on."""
    now = 0
    out = []
    for time, who, what in chain:
        now = now + time
        out.append((now, who, list(what) if who is None else what))
    return out
