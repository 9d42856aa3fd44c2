"""Points 30 to 33: the greatest weighted times.

What is answered proves itself: a run that has the number, and heights that show that no run has more.
"""

import random
import unittest

from samples import (
    BEAT, LOCK_ROWS, LOCKED, STATE_WORDS, any_objects, as_lists, as_tuples, random_run, shown, talking_program)
from test_model import random_program
from test_runs import check_weights

from looptimes.errors import BadWeights, BadWord
from looptimes.programs import Program
from looptimes.runs import Run
from looptimes.spans import Span, plain
from looptimes.standings import start, steps
from looptimes.times import is_most, is_pace, most, pace

ALL_TIME = [("a", word, 1) for word in STATE_WORDS]
NO_WORDS = ["", "X", "x1", "abcdefghi", "x y"]


class Map:
    """The standings of a program and the steps between them."""

    def __init__(self, program, weights):
        self.program = program
        self.weights = {(name, word): value for name, word, value in weights}
        self.steps = {}
        todo = [start(program)]
        while todo:
            standing = todo.pop()
            if standing not in self.steps:
                self.steps[standing] = steps(program, standing)
                todo.extend(after for _, _, after in self.steps[standing])

    def rate(self, standing):
        pairs = zip(self.program.names(), standing[2])
        return sum(self.weights.get((name, state[1]), 0) for name, state in pairs)

    def word(self, event):
        _, who, what = event
        if who is None or isinstance(what, tuple) or what == size(self.program[who]):
            return None
        row = self.program.row(who, what)
        return row[1] if row[0] == "say" else None

    def starts(self, a):
        if a is None:
            return {start(self.program)}
        return {after for triples in self.steps.values() for event, _, after in triples if self.word(event) == a}

    def stretch(self, a, b):
        """Return the standings that can be reached inside a stretch and from which it can end."""
        inside = set()
        todo = list(self.starts(a))
        while todo:
            standing = todo.pop()
            if standing not in inside:
                inside.add(standing)
                todo.extend(after for event, _, after in self.steps[standing] if self.word(event) != b)
        leading = {standing for standing in inside
                   if any(self.word(event) == b for event, _, _ in self.steps[standing])}
        size_ahead = -1
        while size_ahead < len(leading):
            size_ahead = len(leading)
            leading |= {standing for standing in inside
                        if any(after in leading for _, _, after in self.steps[standing])}
        return leading

    def shows_most(self, a, b, number, told):
        """Tell whether the heights, a dict, show that no stretch has more than the number."""
        inside = self.stretch(a, b)
        if not inside <= set(told):
            return False
        if any(told[standing] < 0 for standing in self.starts(a) & inside):
            return False
        for standing in inside:
            for event, time, after in self.steps[standing]:
                gain = self.rate(standing) * time
                if self.word(event) == b:
                    if told[standing] + gain > number:
                        return False
                elif after in inside and told[after] < told[standing] + gain:
                    return False
        return True

    def shows_pace(self, number, told):
        over, under = (number, 1) if isinstance(number, int) else (number.over, number.under)
        if not set(self.steps) <= set(told):
            return False
        return all(told[after] >= told[standing] + under * self.rate(standing) * time - over * time
                   for standing, triples in self.steps.items() for _, time, after in triples)

    def time_goes_on(self):
        """Tell whether time can pass without end: whether some step that takes time leads back to where it began."""
        for standing, triples in self.steps.items():
            for _, time, after in triples:
                if time > 0 and standing in self.reached(after):
                    return True
        return False

    def reached(self, root):
        found = {root}
        todo = [root]
        while todo:
            for _, _, after in self.steps[todo.pop()]:
                if after not in found:
                    found.add(after)
                    todo.append(after)
        return found


def size(rows):
    return sum(1 + sum(size(item) for item in row if isinstance(item, list)) for row in rows)


def random_weights(dice, program):
    values = dice.choice([[1], [0, 1], [-1, 0, 2], [-99, -7, 0, 1, 50, 99]])
    pairs = [(name, word) for name in program.names() for word in STATE_WORDS]
    return [(name, word, dice.choice(values)) for name, word in dice.sample(pairs, dice.randint(1, len(pairs)))]


class TimesTest(unittest.TestCase):
    def whole_run(self, program, events):
        run = Run(program, events)
        self.assertEqual(shown(run.events()), shown(events))
        self.assertTrue(all(isinstance(event[0], int) for event in events))
        return run

    def pairs(self, heights, wanted):
        """Check a list of heights; return it as a dict."""
        self.assertIsInstance(heights, list)
        for pair in heights:
            self.assertIsInstance(pair, tuple)
            self.assertEqual(shown(pair), shown(as_tuples(pair)))
            self.assertTrue(isinstance(pair[1], int) and not isinstance(pair[1], bool))
        self.assertEqual(len(dict(heights)), len(heights))
        self.assertEqual(set(dict(heights)), wanted)
        return dict(heights)

    def check_most(self, program, weights, a, b):
        """Check all that an answer of most says; return it."""
        answer = most(program, weights, a, b)
        chart = Map(program, weights)
        context = (program.text(), weights, a, b, answer)
        self.assertIsInstance(answer, tuple)
        if answer[0] == "none":
            self.assertEqual(answer, ("none",))
            self.assertEqual(chart.stretch(a, b), set(), context)
            self.assertIs(is_most(program, weights, a, b, 0, []), True)
        elif answer[0] == "grows":
            self.check_grows(chart, a, b, *answer[1:])
        else:
            word, number, events, at, heights = answer
            self.assertEqual(word, "most")
            self.assertTrue(isinstance(number, int) and not isinstance(number, bool))
            self.check_stretch(chart, a, b, events, at)
            self.assertEqual(spent(program, weights, events, at), number, context)
            told = self.pairs(heights, chart.stretch(a, b))
            self.assertTrue(chart.shows_most(a, b, number, told), context)
            self.assertIs(is_most(program, weights, a, b, number, heights), True)
            self.assertIs(is_most(program, weights, a, b, number - 1, heights), False)
        return answer

    def check_stretch(self, chart, a, b, events, at):
        """Check that the run ends with a stretch that begins at the index."""
        self.whole_run(chart.program, events)
        words = [chart.word(event) for event in events]
        self.assertEqual(words[-1], b)
        self.assertNotIn(b, words[at + 1:-1])
        self.assertLess(at, len(events) - 1)
        self.assertEqual(at, -1) if a is None else self.assertEqual(words[at], a)

    def check_grows(self, chart, a, b, events, i, j):
        words = [chart.word(event) for event in events]
        at = -1 if a is None else max(k for k in range(i + 1) if words[k] == a)
        self.check_stretch(chart, a, b, events, at)
        self.assertLessEqual(at, i)
        self.assertLess(i, j)
        self.assertLess(j, len(events) - 1)
        self.assertEqual(Run(chart.program, events[:i + 1]).standing(), Run(chart.program, events[:j + 1]).standing())
        weights = [(*pair, value) for pair, value in chart.weights.items()]
        self.assertGreater(spent(chart.program, weights, events[:j + 1], i), 0)

    def check_pace(self, program, weights):
        """Check all that an answer of pace says; return it."""
        answer = pace(program, weights)
        chart = Map(program, weights)
        context = (program.text(), weights, answer)
        self.assertIsInstance(answer, tuple)
        if answer[0] == "ends":
            self.assertEqual(answer, ("ends",))
            self.assertFalse(chart.time_goes_on(), context)
            return answer
        word, number, events, at, heights = answer
        self.assertEqual(word, "pace")
        self.assertTrue((isinstance(number, int) and not isinstance(number, bool)) or number.under > 1)
        run = self.whole_run(program, events)
        ahead = Run(program, events[:at + 1])
        self.assertTrue(-1 <= at < len(events) - 1)
        self.assertEqual(run.standing(), ahead.standing())
        self.assertGreater(run.now() - ahead.now(), 0)
        self.assertEqual(run.spent(weights) - ahead.spent(weights), number * (run.now() - ahead.now()), context)
        told = self.pairs(heights, set(chart.steps))
        self.assertTrue(chart.shows_pace(number, told), context)
        self.assertLess(max(abs(height) for height in told.values()), 10 ** 30)
        self.assertIs(is_pace(program, weights, number, heights), True)
        self.assertIs(is_pace(program, weights, number - Span(1, 1000), heights), False)
        return answer


def spent(program, weights, events, at):
    """Return the weighted time behind the event with the index."""
    return Run(program, events).spent(weights) - Run(program, events[:at + 1]).spent(weights)


class MostTest(TimesTest):
    def test_most(self):
        self.assertEqual(self.check_most(BEAT, ALL_TIME, "x", "x")[1], 6)
        self.assertEqual(self.check_most(BEAT, ALL_TIME, None, "x")[1], 2)
        self.assertEqual(self.check_most(BEAT, [("a", "runs", -5)], "x", "x")[1], -5)
        self.assertEqual(self.check_most(BEAT, [("a", "runs", 5), ("a", "sleeps", -1)], "x", "x")[1], 7)
        self.assertEqual(self.check_most(BEAT, [], "x", "x")[1], 0)
        self.assertEqual(self.check_most(LOCKED, [("b", "takes", 1)], "in", "out")[1], 1)
        self.assertEqual(self.check_most(LOCKED, [("b", "takes", 1), ("a", "takes", 1)], "out", "out")[1], 0)
        self.assertEqual(self.check_most(LOCKED, [("a", "ready", 9), ("b", "ready", 9)], None, "in")[1], 0)

    def test_each_state(self):
        program = Program([
            ("a", [("work", 4, 4), ("give", "q"), ("sleep", 2), ("say", "y")]), ("b", [("take", "q"), ("work", 3, 3)])],
            [("q", 0, 1)], late=1)
        for name, word, number in (("a", "runs", 4), ("a", "ready", 0), ("a", "sleeps", 3), ("a", "takes", 0),
                                   ("a", "ended", 0), ("b", "runs", 3), ("b", "ready", 4), ("b", "sleeps", 0),
                                   ("b", "takes", 0), ("b", "ended", 0)):
            self.assertEqual(self.check_most(program, [(name, word, 1)], None, "y")[1], number, (name, word))
            self.assertEqual(self.check_most(program, [(name, word, -1)], None, "y")[1], -number, (name, word))
        other = Program([("b", program["b"]), ("a", program["a"])], [("q", 0, 1)], late=1)
        self.assertEqual(self.check_most(other, [("b", "takes", 1)], None, "y")[1], 4)
        self.assertEqual(self.check_most(other, [("b", "ended", -7), ("b", "runs", 5)], None, "y")[1], 15)
        ended = Program([("a", []), ("b", [("work", 4, 4), ("say", "y")])])
        self.assertEqual(self.check_most(ended, [("a", "ended", 3)], None, "y")[1], 12)

    def test_from_the_last_event_and_from_an_earlier_one(self):
        program = Program([("a", [("say", "x"), ("work", 2, 2), ("say", "x"), ("work", 3, 3), ("say", "y")])])
        weights = [("a", "runs", 1)]
        self.assertEqual(self.check_most(program, weights, "x", "y")[1], 5)
        self.assertEqual(self.check_most(program, [("a", "runs", -1)], "x", "y")[1], -3)
        self.assertEqual(self.check_most(program, weights, "x", "x")[1], 2)
        self.assertEqual(self.check_most(program, weights, None, "x")[1:4], (0, [(0, None, []), (0, "a", 0)], -1))
        self.assertEqual(self.check_most(program, weights, None, "y")[1], 5)

    def test_none(self):
        self.assertEqual(self.check_most(BEAT, ALL_TIME, "y", "x"), ("none",))
        self.assertEqual(self.check_most(BEAT, ALL_TIME, "x", "y"), ("none",))
        self.assertEqual(self.check_most(BEAT, ALL_TIME, None, "y"), ("none",))
        self.assertEqual(self.check_most(Program([("a", [("say", "x"), ("say", "y")])]), [], "y", "x"), ("none",))
        self.assertEqual(self.check_most(Program([("a", [("say", "x")])]), [], "x", "x"), ("none",))
        cut = Program([("a", [("say", "x"), ("take", "q"), ("say", "y")])], [("q", 0, 1)])
        self.assertEqual(self.check_most(cut, [], "x", "y"), ("none",))

    def test_grows(self):
        rows = [("ever", [("either", [("say", "x")], [("say", "y")]), ("sleep", 1)])]
        program = Program([("a", rows)])
        self.assertEqual(self.check_most(program, [("a", "sleeps", 1)], "x", "y")[0], "grows")
        self.assertEqual(self.check_most(program, [("a", "sleeps", 1)], None, "y")[0], "grows")
        self.assertEqual(self.check_most(program, [("a", "sleeps", 1)], "y", "y")[0], "grows")
        self.assertEqual(self.check_most(program, [("a", "sleeps", -1)], "x", "y")[1], -1)
        self.assertEqual(self.check_most(program, [("a", "runs", 9)], "x", "y")[1], 0)
        # Some rounds cost, others pay.
        rows = [("ever", [("either", [("sleep", 2), ("work", 0, 2)], [("say", "y")]), ("sleep", 1)])]
        program = Program([("a", rows)])
        self.assertEqual(self.check_most(program, [("a", "sleeps", -2), ("a", "runs", 3)], None, "y")[1], 0)
        self.assertEqual(self.check_most(program, [("a", "sleeps", -2), ("a", "runs", 4)], None, "y")[0], "grows")
        # What grows behind the last word, or cannot come to it, does not count.
        behind = Program([("a", [("say", "x"), ("say", "y"), ("ever", [("sleep", 1)])])])
        self.assertEqual(self.check_most(behind, ALL_TIME, "x", "y")[1], 0)
        apart = Program([("a", [("say", "x"), ("either", [("say", "y")], [("ever", [("sleep", 1)])])])])
        self.assertEqual(self.check_most(apart, ALL_TIME, "x", "y")[1], 0)
        rows = [("either", [("ever", [("sleep", 1), ("either", [("say", "x")], [])])], [("say", "y")])]
        ahead = Program([("a", rows)])
        self.assertEqual(self.check_most(ahead, ALL_TIME, "x", "y"), ("none",))
        self.assertEqual(self.check_most(ahead, ALL_TIME, None, "x")[0], "grows")

    def test_random_programs(self):
        counts = {}
        for seed in range(1200):
            dice = random.Random(seed)
            program = dice.choice([random_program, talking_program, talking_program])(dice)
            if len(reached(program, 200)) > 200:
                continue
            said = [line[4:] for line in program.text().split("\n") if line.startswith("say ")] + ["z"]
            a, b = dice.choice([None, *said]), dice.choice(said)
            answer = self.check_most(program, random_weights(dice, program), a, b)
            counts[answer[0]] = counts.get(answer[0], 0) + 1
        self.assertGreater(min(counts.get(kind, 0) for kind in ("most", "grows", "none")), 10, counts)

    def test_no_run_in_fractions_has_more(self):
        for seed in range(150):
            dice = random.Random(seed)
            program = talking_program(dice)
            weights = random_weights(dice, program)
            answer = most(program, weights, None, "x") if len(reached(program, 300)) <= 300 else ("none",)
            if answer[0] != "most":
                continue
            for _ in range(4):
                events, worlds = random_run(dice, program, 25)
                ends = [k for k, world in enumerate(worlds[:-1]) if world.word() == "x"]
                if ends:
                    self.assertLessEqual(Run(program, events[:ends[0] + 1]).spent(weights), answer[1])


def reached(program, many):
    found = {start(program): True}
    todo = list(found)
    while todo and len(found) <= many:
        for _, _, after in steps(program, todo.pop()):
            if after not in found:
                found[after] = True
                todo.append(after)
    return found


class IsMostTest(TimesTest):
    def test_changed_heights(self):
        answers = {True: 0, False: 0}
        for program, weights, a, b in (
                (BEAT, ALL_TIME, "x", "x"), (BEAT, [("a", "runs", -7), ("a", "sleeps", 3)], None, "x"),
                (LOCKED, [("b", "takes", 2), ("a", "runs", -1)], "in", "out")):
            _, number, _, _, heights = most(program, weights, a, b)
            chart = Map(program, weights)
            for other in (as_lists(heights), as_tuples(heights), heights[::-1], heights + any_objects(),
                          any_objects() + heights, heights + [(standing, height - 9) for standing, height in heights]):
                self.assertIs(is_most(program, weights, a, b, number, other), True)
            # With some more there is room for higher heights.
            number += 2
            for at, (standing, height) in enumerate(heights):
                rest = heights[:at] + heights[at + 1:]
                self.assertIs(is_most(program, weights, a, b, number, rest), False)
                for by in (-3, -1, 1, 2, 100):
                    changed = rest + [(standing, height + by)]
                    wanted = chart.shows_most(a, b, number, dict(changed))
                    answers[wanted] += 1
                    self.assertIs(is_most(program, weights, a, b, number, changed), wanted)
                    # Of two with the same standing the first one counts.
                    self.assertIs(is_most(program, weights, a, b, number, heights + changed), True)
                    self.assertIs(is_most(program, weights, a, b, number, changed + heights), wanted)
                for pair in ((standing, Span(height)), (standing, str(height)), (standing,), (standing, None),
                             (height, standing), (standing, height, 0), (standing[1:], height), {standing: height}):
                    self.assertIs(is_most(program, weights, a, b, number, rest + [pair]), False)
                    self.assertIs(is_most(program, weights, a, b, number, [pair] + heights), True)
        self.assertGreater(min(answers.values()), 5, answers)

    def test_numbers(self):
        _, number, _, _, heights = most(BEAT, ALL_TIME, "x", "x")
        for other, wanted in ((number, True), (number + 1, True), (10 ** 39, True), (number - 1, False),
                              (-number, False)):
            self.assertIs(is_most(BEAT, ALL_TIME, "x", "x", other, heights), wanted)
        for thing in any_objects() + [Span(number), Span(13, 2), str(number), [number]]:
            wanted = thing == 10 ** 39 and isinstance(thing, int)
            self.assertIs(is_most(BEAT, ALL_TIME, "x", "x", thing, heights), wanted)
        zero = most(BEAT, [], "x", "x")[4]
        self.assertIs(is_most(BEAT, [], "x", "x", 0, zero), True)
        self.assertIs(is_most(BEAT, [], "x", "x", False, zero), False)
        self.assertIs(is_most(BEAT, [], "x", "x", 0, [(standing, False) for standing, _ in zero]), False)

    def test_no_lists(self):
        for thing in any_objects() + [dict(most(BEAT, ALL_TIME, "x", "x")[4])]:
            self.assertIs(is_most(BEAT, ALL_TIME, "x", "x", 6, thing), False)
            self.assertIs(is_most(BEAT, ALL_TIME, "y", "x", 6, thing), isinstance(thing, (list, tuple)))
        self.assertIs(is_most(program=BEAT, weights=[], a=None, b="x", number=0, heights=[]), False)

    def test_what_grows_has_no_heights(self):
        program = Program([("a", [("ever", [("either", [("say", "x")], [("say", "y")]), ("sleep", 1)])])])
        for height in (0, 5, 10 ** 39):
            heights = [(standing, height) for standing in reached(program, 99)]
            self.assertIs(is_most(program, [("a", "sleeps", 1)], "x", "y", 10 ** 39, heights), False)


class PaceTest(TimesTest):
    def test_pace(self):
        self.assertEqual(self.check_pace(BEAT, ALL_TIME)[1], 1)
        self.assertEqual(shown(self.check_pace(BEAT, [("a", "runs", 1)])[1]), "Span 2/5")
        self.assertEqual(shown(self.check_pace(BEAT, [("a", "sleeps", 1)])[1]), "Span 4/5")
        self.assertEqual(shown(self.check_pace(BEAT, [("a", "runs", -1)])[1]), "Span -1/5")
        self.assertEqual(shown(self.check_pace(BEAT, [("a", "runs", -99), ("a", "sleeps", -99)])[1]), "-99")
        self.assertEqual(shown(self.check_pace(BEAT, [])[1]), "0")
        self.assertEqual(shown(self.check_pace(BEAT, [("a", "takes", 99)])[1]), "0")

    def test_ends(self):
        for rows in ([], [("work", 1, 9)], [("ever", [("pass",)])], [("sleep", 3), ("take", "q")],
                     [("ever", [("say", "x"), ("work", 0, 0), ("pass",)])],
                     [("work", 3, 4), ("ever", [("take", "q"), ("give", "q"), ("pass",)])]):
            program = Program([("a", rows)], [("q", 0, 1)])
            self.assertEqual(self.check_pace(program, ALL_TIME), ("ends",), rows)

    def test_time_that_can_go_on(self):
        self.assertEqual(self.check_pace(Program([("a", [("ever", [("work", 0, 1), ("pass",)])])]), ALL_TIME)[1], 1)
        program = Program([("a", [("ever", [("sleep", 1)])])], late=99)
        self.assertEqual(shown(self.check_pace(program, ALL_TIME)[1]), "1")
        program = Program([("a", [("either", [("ever", [("sleep", 2), ("work", 1, 1)])], [])])])
        self.assertEqual(shown(self.check_pace(program, [("a", "runs", 1)])[1]), "Span 1/3")

    def test_the_best_of_several_rounds(self):
        rows = [("ever", [("either", [("sleep", 3), ("work", 1, 1)], [("sleep", 5), ("work", 2, 2)]), ("pass",)])]
        self.assertEqual(shown(self.check_pace(Program([("a", rows)]), [("a", "runs", 7)])[1]), "2")
        self.assertEqual(shown(self.check_pace(Program([("a", rows)]), [("a", "sleeps", 1)])[1]), "Span 3/4")
        self.assertEqual(shown(self.check_pace(Program([("a", rows)]), [("a", "runs", -1)])[1]), "Span -1/4")
        locked = [("ever", LOCK_ROWS + [("sleep", 2)])]
        program = Program([("a", locked), ("b", locked)], [("lock", 1, 1)])
        self.check_pace(program, [("a", "takes", 1)])
        self.check_pace(program, [("a", "takes", 1), ("b", "takes", -1), ("b", "runs", 50)])

    def test_random_programs(self):
        counts = {}
        for seed in range(500):
            dice = random.Random(seed)
            program = dice.choice([random_program, talking_program])(dice)
            if len(reached(program, 150)) > 150:
                continue
            answer = self.check_pace(program, random_weights(dice, program))
            kind = "ends" if answer[0] == "ends" else "whole" if isinstance(answer[1], int) else "fraction"
            counts[kind] = counts.get(kind, 0) + 1
        self.assertGreater(min(counts.get(kind, 0) for kind in ("ends", "whole", "fraction")), 20, counts)


class IsPaceTest(TimesTest):
    def test_changed_heights(self):
        answers = {True: 0, False: 0}
        for program, weights in ((BEAT, [("a", "runs", 1)]), (BEAT, [("a", "runs", -3), ("a", "sleeps", 1)]),
                                 (Program([("a", [("ever", [("sleep", 1)])]), ("b", [("work", 1, 2)])]), ALL_TIME)):
            _, number, _, _, heights = pace(program, weights)
            chart = Map(program, weights)
            for other in (as_lists(heights), as_tuples(heights), heights[::-1], heights + any_objects(),
                          any_objects() + heights, heights + [(standing, height - 99) for standing, height in heights]):
                self.assertIs(is_pace(program, weights, number, other), True)
            for at, (standing, height) in enumerate(heights):
                rest = heights[:at] + heights[at + 1:]
                self.assertIs(is_pace(program, weights, number, rest), False)
                for by in (-3, -1, 1, 2, 100):
                    changed = rest + [(standing, height + by)]
                    wanted = chart.shows_pace(number, dict(changed))
                    answers[wanted] += 1
                    self.assertIs(is_pace(program, weights, number, changed), wanted)
                    self.assertIs(is_pace(program, weights, number, heights + changed), True)
                    self.assertIs(is_pace(program, weights, number, changed + heights), wanted)
                for pair in ((standing, Span(height)), (standing, str(height)), (standing,), (height, standing)):
                    self.assertIs(is_pace(program, weights, number, rest + [pair]), False)
        self.assertGreater(min(answers.values()), 5, answers)

    def test_numbers(self):
        weights = [("a", "runs", 1)]
        heights = pace(BEAT, weights)[4]
        for number, wanted in ((Span(2, 5), True), (Span(4, 10), True), (Span(399, 1000), False), (0, False)):
            self.assertIs(is_pace(BEAT, weights, number, heights), wanted)
        for thing in any_objects() + ["2/5", [Span(2, 5)], (2, 5)]:
            if not isinstance(thing, Span) and not (isinstance(thing, int) and not isinstance(thing, bool)):
                self.assertIs(is_pace(BEAT, weights, thing, heights), False)
        level = [(standing, 0) for standing in reached(BEAT, 99)]
        for number, wanted in ((1, True), (Span(1), True), (2, True), (10 ** 39, True), (Span(3, 2), True),
                               (Span(1, 2), False), (0, False), (-1, False), (True, False)):
            self.assertIs(is_pace(BEAT, weights, number, level), wanted)
        self.assertIs(is_pace(BEAT, ALL_TIME, Span(1), level), True)

    def test_no_lists(self):
        for thing in any_objects() + [dict(pace(BEAT, ALL_TIME)[4])]:
            self.assertIs(is_pace(BEAT, ALL_TIME, 1, thing), False)
        self.assertIs(is_pace(program=BEAT, weights=ALL_TIME, number=1, heights=pace(BEAT, ALL_TIME)[4]), True)

    def test_a_program_that_ends(self):
        program = Program([("a", [("work", 1, 2)])])
        falling = [(standing, -10 * standing[2][0][0]) for standing in reached(program, 9)]
        self.assertIs(is_pace(program, ALL_TIME, 11, falling), True)
        self.assertIs(is_pace(program, ALL_TIME, 10, falling), False)


class RefusalsTest(TimesTest):
    def test_bad_weights(self):
        program = Program([("a", [("ever", [("say", "x"), ("sleep", 1)])]), ("b", [])])
        check_weights(self, lambda weights: most(program, weights, "x", "x"))
        check_weights(self, lambda weights: is_most(program, weights, "x", "x", None, None))
        check_weights(self, lambda weights: pace(program, weights))
        check_weights(self, lambda weights: is_pace(program, weights, None, None))

    def test_bad_words(self):
        for thing in any_objects() + NO_WORDS:
            for call in (lambda a, b: most(BEAT, ALL_TIME, a, b), lambda a, b: is_most(BEAT, ALL_TIME, a, b, 0, [])):
                if thing is not None and thing not in ("a", "abc", "runs"):
                    self.refuse(call, thing, "x", thing)
                    self.refuse(call, thing, None, thing)
                if thing not in ("a", "abc", "runs"):
                    self.refuse(call, "x", thing, thing)
                    self.refuse(call, None, thing, thing)
        with self.assertRaises(BadWeights):
            most(BEAT, None, 0, 0)
        with self.assertRaises(BadWeights):
            is_most(BEAT, [0], 0, 0, 0, 0)

    def refuse(self, call, a, b, word):
        with self.assertRaises(BadWord) as caught:
            call(a, b)
        self.assertIs(caught.exception.word, word)


class AnswersTest(TimesTest):
    def test_equal_answers_that_are_new(self):
        grows = Program([("a", [("ever", [("either", [("say", "x")], [("say", "y")]), ("sleep", 1)])])])
        for program in (BEAT, grows):
            for call in (lambda: most(program, ALL_TIME, "x", "x"), lambda: most(program, ALL_TIME, None, "y"),
                         lambda: pace(program, ALL_TIME)):
                first = call()
                wanted = shown(first)
                for part in first:
                    if isinstance(part, list):
                        for item in part:
                            if isinstance(item[-1], list):
                                item[-1].append("spoilt")
                        part.append("spoilt")
                self.assertEqual(shown(call()), wanted)

    def test_arguments(self):
        weights = as_lists(ALL_TIME)
        wanted = shown(most(BEAT, ALL_TIME, "x", "x"))
        self.assertEqual(shown(most(program=BEAT, weights=weights, a="x", b="x")), wanted)
        self.assertEqual(shown(pace(program=BEAT, weights=weights)), shown(pace(BEAT, tuple(ALL_TIME))))
        heights = as_lists(most(BEAT, weights, "x", "x")[4])
        kept = as_lists(heights)
        is_most(BEAT, weights, "x", "x", 6, heights)
        is_pace(BEAT, weights, 1, heights)
        self.assertEqual(heights, kept)
        self.assertEqual(weights, as_lists(ALL_TIME))

    def test_numbers_are_plain(self):
        self.assertEqual(shown(plain(pace(BEAT, ALL_TIME)[1])), "1")


if __name__ == "__main__":
    unittest.main()
