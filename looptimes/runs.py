"""Runs: what can happen, one event after the other."""

from looptimes.errors import BadShift
from looptimes.moments import averaged_events, floored_events
from looptimes.moves import last_moment, last_standing, moves_with
from looptimes.spans import is_number, plain
from looptimes.standings import start
from looptimes.weights import checked_weights, rate


class Run:
    """A list of events of a program, from the first look on.

    `moves` are its moves, for the other files of the package.
    """

    def __init__(self, program, events=()):
        self.program = program
        self.moves = moves_with(program, (), events)

    def events(self):
        """Return the list of the events."""
        return [_opened_event(move[0]) for move in self.moves]

    def __len__(self):
        return len(self.moves)

    def __eq__(self, other):
        if not isinstance(other, Run):
            return False
        return self.program == other.program and self.events() == other.events()

    def further(self, events):
        """Return the run that goes on with further events."""
        run = Run(self.program)
        run.moves = moves_with(self.program, self.moves, events)
        return run

    def now(self):
        """Return the moment of the last event."""
        return last_moment(self.moves)

    def log(self):
        """Return the list of the pairs (moment, word) of what is said."""
        return [(event[0], word) for event, _, word, _ in self.moves if word is not None]

    def standing(self):
        """Return the standing behind the last event."""
        return last_standing(self.program, self.moves)

    def spent(self, weights):
        """Return the weighted time of the run."""
        rates = checked_weights(self.program, weights)
        standing = start(self.program)
        total = 0
        for _, time, _, after in self.moves:
            total = total + rate(rates, standing) * time
            standing = after
        return plain(total)

    def floored(self, shift=0):
        """Return the run in whole numbers with the moments moved by the shift and cut down."""
        if not is_number(shift) or not 0 <= shift < 1:
            raise BadShift(shift)
        return Run(self.program, floored_events(self.events(), shift))

    def parts(self):
        """Return the pairs (weight, run in whole numbers) of which this run is the average."""
        return [(weight, Run(self.program, events)) for weight, events in averaged_events(self.events())]


def _opened_event(event):
    moment, who, what = event
    if who is None:
        return (moment, who, list(what))
    return event
