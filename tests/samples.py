"""What several tests use: any objects, numbers as fractions, random runs."""

from fractions import Fraction

from model import World

from looptimes.errors import BadRow
from looptimes.programs import Program
from looptimes.runs import Run
from looptimes.spans import Span, plain

STATE_WORDS = ("runs", "ready", "sleeps", "takes", "ended")
LOCK_ROWS = [("take", "lock"), ("say", "in"), ("pass",), ("work", 0, 1), ("say", "out"), ("give", "lock")]
LOCKED = Program([("a", LOCK_ROWS), ("b", LOCK_ROWS)], [("lock", 1, 1)])
FREE = Program([("a", LOCK_ROWS[1:]), ("b", LOCK_ROWS[1:])], [("lock", 1, 1)])
BEAT = Program([("a", [("ever", [("work", 1, 2), ("say", "x"), ("sleep", 3)])])], late=1)

KINDS = ["say", "say", "say", "work", "work", "pass", "sleep", "take", "give", "either", "within"]


def any_objects():
    """Return objects of all kinds that can be passed."""
    endless = []
    endless.extend([endless, endless, endless])
    endless_pair = []
    endless_pair.extend([endless_pair, endless_pair])
    return [None, True, False, 0, 1, -1, 10 ** 39, "", "a", "abc", "runs", [], (), {}, {"a": 1}, [[]],
            [None, None, None], ["a", "b"], ("a", "b", "c"), endless, endless_pair, Span(1, 2), Span(3), BEAT,
            Run(BEAT), [{}], [Span(1, 2)]]


def fraction(number):
    return Fraction(number) if isinstance(number, int) else Fraction(number.over, number.under)


def number(value):
    """Return the plain number of a Fraction."""
    return plain(Span(value.numerator, value.denominator))


def plained(standing):
    """Return a standing in which Fractions may be with plain numbers."""
    turn, ready, states, counters = standing
    return turn, ready, tuple(
        (place, word, number(Fraction(rest)), missed, number(Fraction(left)))
        for place, word, rest, missed, left in states), counters


def shown(thing, depth=9):
    """Return a text that tells kinds and values, Spans included."""
    if isinstance(thing, Span):
        return f"Span {thing.text()}"
    if isinstance(thing, (list, tuple)):
        return f"{type(thing).__name__}({', '.join(shown(item, depth - 1) for item in thing if depth)})"
    return repr(thing)


def as_lists(thing):
    """Return a copy in which lists stand for tuples."""
    return [as_lists(item) for item in thing] if isinstance(thing, (list, tuple)) else thing


def as_tuples(thing):
    """Return a copy in which tuples stand for lists."""
    return tuple(as_tuples(item) for item in thing) if isinstance(thing, (list, tuple)) else thing


def told(event):
    """Return an event of a World as one of a run."""
    return (number(Fraction(event[0])), *event[1:])


def talking_rows(dice, deep=0):
    """Return rows in which much is said and worked."""
    rows = []
    for _ in range(dice.randint(1, 3)):
        kind = dice.choice(KINDS[:len(KINDS) - 2 * deep])
        if kind == "say":
            rows.append((kind, dice.choice("xyz")))
        elif kind == "work":
            low = dice.randint(0, 2)
            rows.append((kind, low, low + dice.randint(0, 2)))
        elif kind == "pass":
            rows.append((kind,))
        elif kind == "sleep":
            rows.append((kind, dice.randint(1, 3)))
        elif kind in ("take", "give"):
            rows.append((kind, "q"))
        elif kind == "either":
            rows.append((kind, talking_rows(dice, 1), talking_rows(dice, 1)))
        else:
            rows.append((kind, dice.randint(1, 4), talking_rows(dice, 1), talking_rows(dice, 1)))
    return rows


def talking_program(dice):
    """Return a program that says much, mostly without end."""
    while True:
        tasks = []
        for name in "ab"[:dice.randint(1, 2)]:
            rows = talking_rows(dice)
            if dice.random() < 0.7:
                rows = [("ever", rows + [dice.choice([("sleep", 1), ("sleep", 2), ("pass",)])])]
            tasks.append((name, rows))
        try:
            return Program(tasks, [("q", dice.randint(0, 2), 2)], late=dice.choice([0, 0, 1]))
        except BadRow:
            continue


def random_moment(dice, low, high, whole):
    if whole:
        return dice.randint(low, high)
    choice = dice.random()
    if choice < 0.2:
        return low
    if choice < 0.4:
        return high
    return low + (high - low) * Fraction(dice.randint(0, 6), 6)


def random_run(dice, program, most, whole=False):
    """Return the events of a run, and the worlds ahead of each of them and at the end."""
    worlds = [World(program)]
    events = []
    while len(events) < most:
        world = worlds[-1]
        low, high = world.work_span() if world.turn else dice.choice(world.look_spans() or [(None, None)])
        if low is None:
            break
        event, after = dice.choice(world.followers_at(random_moment(dice, low, high, whole)))
        events.append(told(event))
        worlds.append(after)
    return events, worlds
