"""Point 34: programs that say the same."""

import random
import unittest

from model import World
from samples import BEAT, FREE, LOCKED, as_lists, shown, talking_program
from test_model import random_program

from looptimes.errors import LoopError
from looptimes.programs import Program
from looptimes.words import alike

X, Y, Z = ("say", "x"), ("say", "y"), ("say", "z")


def rows_of_words(program, many):
    """Return all rows of at most so many words, found with the second account of the loop."""
    found = {((), World(program).standing()): World(program)}
    todo = list(found.items())
    while todo:
        (words, _), world = todo.pop()
        for _, after in world.followers():
            longer = words if world.word() is None else words + (world.word(),)
            pair = (longer, after.standing())
            if len(longer) <= many and pair not in found:
                found[pair] = after
                todo.append((pair, after))
    return {words for words, _ in found}


def one(*rows, late=0):
    return Program([("a", list(rows))], [("q", 0, 1)], late=late)


class WordsTest(unittest.TestCase):
    def alike(self, first, second):
        for pair in ((first, second), (second, first), (first, first), (second, second)):
            self.assertEqual(alike(*pair), ("alike",), (first.text(), second.text()))

    def unlike(self, first, second, *wanted):
        """Check that an answer is one of the wanted pairs (k, words)."""
        answers = [shown(("words", k, list(words))) for k, words in wanted]
        self.assertIn(shown(alike(first, second)), answers)
        swapped = [shown(("words", 1 - k, list(words))) for k, words in wanted]
        self.assertIn(shown(alike(second, first)), swapped)

    def test_alike(self):
        self.alike(BEAT, BEAT)
        self.alike(one(), one(("work", 0, 9), ("pass",)))
        self.alike(one(), one(("take", "q"), X))
        self.alike(one(X, Y), one(("work", 1, 3), X, ("either", [("pass",)], []), ("sleep", 2), Y, ("take", "q"), Z))
        self.alike(one(("either", [X, Y], [X, Z])), one(X, ("either", [Y], [Z])))
        self.alike(one(("either", [X], [])), one(X))
        self.alike(one(("ever", [X, ("pass",)])), one(("ever", [X, ("sleep", 2), X, ("pass",), X])))
        self.alike(Program([("a", [X, Y])]), Program([("b", [X]), ("c", [("work", 0, 1), Y])]))
        self.alike(one(("within", 3, [("sleep", 2)], [Y]), X), one(X))

    def test_words(self):
        self.unlike(one(), one(X), (1, "x"))
        self.unlike(one(X), one(("either", [X], [Y])), (1, "y"))
        self.unlike(one(X, Y, Z), one(X, Y), (0, "xyz"))
        self.unlike(one(("ever", [X, ("pass",)])), one(X, X, X, X), (0, "xxxxx"))
        self.unlike(one(("either", [X, Y, Y], [X, Z])), one(X, ("either", [Y], [Z, Z])), (0, "xyy"), (1, "xzz"))
        self.unlike(Program([("a", [X]), ("b", [Y])]), Program([("b", [Y]), ("a", [X])]), (0, "x"), (1, "y"))
        self.unlike(one(("within", 2, [("sleep", 2)], [Y]), X), one(X), (0, "y"))
        self.unlike(one(("within", 2, [("sleep", 2)], [Y]), X), one(("either", [Y], [Z]), X), (0, "x"), (1, "z"))

    def test_words_that_are_longer_than_a_letter(self):
        first = Program([("a", [("say", "abcdefgh"), ("say", "b")])])
        self.unlike(first, one(("say", "abcdefgh")), (0, ["abcdefgh", "b"]))

    def test_the_lock(self):
        self.alike(LOCKED, LOCKED)
        self.unlike(LOCKED, FREE, (0, ["in", "out"]), (1, ["in", "in"]))

    def test_slower(self):
        for program in (BEAT, LOCKED, FREE, one(("within", 2, [("sleep", 2)], [X]), Y, late=1)):
            for k in (1, 2, 3, 7):
                self.assertEqual(alike(program, program.slower(k)), ("alike",))
                self.assertEqual(alike(one=program.slower(k), other=program), ("alike",))

    def test_lateness(self):
        rows = [("within", 3, [("sleep", 1), ("sleep", 1)], [Y]), X]
        self.unlike(one(*rows), one(*rows, late=1), (1, "y"))
        self.alike(one(*rows, late=1), one(*rows, late=5))

    def test_answers_are_new_and_equal(self):
        first = alike(LOCKED, FREE)
        wanted = shown(first)
        first[2].append("spoilt")
        self.assertEqual(shown(alike(LOCKED, FREE)), wanted)
        copy = Program([(name, as_lists(FREE[name])) for name in FREE.names()], as_lists(FREE.counters()))
        self.assertEqual(shown(alike(LOCKED, copy)), wanted)

    def test_random_programs(self):
        counts = {}
        for seed in range(900):
            dice = random.Random(seed)
            first = dice.choice([random_program, talking_program])(dice)
            second = self.other(dice, first)
            if any(len(reached(program)) > 60 for program in (first, second)):
                continue
            answer = alike(first, second)
            context = (first.text(), second.text(), answer)
            if answer[0] == "alike":
                self.assertEqual(answer, ("alike",))
                self.assertEqual(rows_of_words(first, 6), rows_of_words(second, 6), context)
            else:
                _, k, words = answer
                self.assertIsInstance(words, list)
                rows = [rows_of_words(program, len(words)) for program in (first, second)]
                self.assertIn(tuple(words), rows[k], context)
                self.assertNotIn(tuple(words), rows[1 - k], context)
                shorter = [{row for row in found if len(row) < len(words)} for found in rows]
                self.assertEqual(shorter[0], shorter[1], context)
            kind = answer[0] if answer[0] == "alike" else min(len(answer[2]), 4)
            counts[kind] = counts.get(kind, 0) + 1
        self.assertGreater(min(counts.get(kind, 0) for kind in ("alike", 1, 2, 3, 4)), 2, counts)

    def other(self, dice, program):
        """Return a program that is not unlike the program."""
        for _ in range(20):
            name = dice.choice(program.names())
            try:
                place = dice.randrange(12)
                row = program.row(name, place)
                if row[0] == "say":
                    return program.with_row(name, place, dice.choice([("say", dice.choice("xyz")), ("pass",)]))
                if row[0] == "either":
                    return program.with_row(name, place, (row[0], row[2], dice.choice(row[1:])))
                if row[0] in ("work", "sleep", "pass"):
                    return program.with_row(name, place, dice.choice([("sleep", dice.randint(1, 3)), ("work", 0, 2)]))
            except LoopError:
                continue
        return program.with_late(dice.randint(0, 2))


def reached(program):
    found = {World(program).standing(): World(program)}
    todo = list(found.values())
    while todo and len(found) <= 60:
        for _, after in todo.pop().followers():
            if after.standing() not in found:
                found[after.standing()] = after
                todo.append(after)
    return found


if __name__ == "__main__":
    unittest.main()
