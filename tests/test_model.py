"""Points 16 to 19, 23 and 24: the steps of many small programs, compared with a second account of the loop."""

import random
import unittest

from model import World

from looptimes.errors import BadRow
from looptimes.programs import Program
from looptimes.standings import start, steps

KINDS = ["work", "say", "pass", "sleep", "take", "give", "either", "ever", "within"]


def random_rows(dice, deep):
    """Return a list of rows, not always one that a Program accepts."""
    return [random_row(dice, deep) for _ in range(dice.choice([0, 1, 1, 2, 2, 3]))]


def random_row(dice, deep):
    kind = dice.choice(KINDS if deep < 3 else KINDS[:6])
    if kind == "work":
        low = dice.randint(0, 2)
        return (kind, low, low + dice.randint(0, 2))
    if kind == "say":
        return (kind, dice.choice("xyz"))
    if kind == "sleep":
        return (kind, dice.randint(1, 3))
    if kind in ("take", "give"):
        return (kind, dice.choice("qr"))
    if kind == "either":
        return (kind, random_rows(dice, deep + 1), random_rows(dice, deep + 1))
    if kind == "ever":
        return (kind, random_rows(dice, deep + 1))
    if kind == "within":
        return (kind, dice.randint(1, 4), random_rows(dice, deep + 1), random_rows(dice, deep + 1))
    return (kind,)


def random_task(dice, counters):
    """Return rows that a Program accepts, preferably long ones."""
    while True:
        rows = random_rows(dice, 0) + random_rows(dice, 0)
        if dice.random() < 0.5:
            rows = [("ever", [("within", dice.randint(1, 3), rows, random_rows(dice, 1)), ("pass",)])]
        try:
            Program([("a", rows)], counters)
        except BadRow:
            continue
        return rows


def random_program(dice):
    counters = [("q", dice.randint(0, 1), 1), ("r", dice.randint(0, 2), 2)]
    names = "abc"[:dice.randint(1, 3)]
    tasks = [(name, random_task(dice, counters)) for name in names]
    return Program(tasks, counters, late=dice.choice([0, 0, 1, 2]))


def as_lists(thing):
    return [as_lists(item) for item in thing] if isinstance(thing, tuple) else thing


class ModelTest(unittest.TestCase):
    def compare(self, program, most):
        """Compare the steps of at most so many standings; return the standings."""
        world = World(program)
        self.assertEqual(start(program), world.standing(), program.text())
        found = {world.standing(): world}
        for standing in found_later(found):
            if len(found) > most:
                break
            world = found[standing]
            wanted = []
            for event, after in world.followers():
                moment = event[0] - world.now
                wanted.append(((moment, *event[1:]), moment, after.standing()))
                found.setdefault(after.standing(), after)
            got = steps(program, standing)
            self.assertEqual(sorted(map(repr, got)), sorted(map(repr, wanted)), program.text() + repr(standing))
            self.assertEqual(repr(steps(program, as_lists(standing))), repr(got))
        return found

    def test_random_programs(self):
        seen = {"missed": 0, "takes": 0, "both": 0, "rest": 0, "behind": 0}
        for seed in range(1500):
            dice = random.Random(seed)
            for turn, ready, states, _ in self.compare(random_program(dice), 120):
                seen["missed"] += any(state[3] == 2 for state in states)
                seen["takes"] += any(state[1] == "takes" for state in states)
                seen["both"] += any(state[1] == "sleeps" and state[3] == 1 for state in states)
                seen["rest"] += not turn and not ready
                seen["behind"] += any(state[2] < 0 or state[4] < 0 for state in states)
        self.assertGreater(min(seen.values()), 200, seen)


def found_later(found):
    """Go over the keys of a dict, those that are added meanwhile too."""
    todo = list(found)
    while todo:
        yield from todo
        todo = list(found)[list(found).index(todo[-1]) + 1:]


if __name__ == "__main__":
    unittest.main()
