"""Point 5: large programs, long runs, large integers, in seconds."""

import random
import time
import unittest

from samples import STATE_WORDS, random_run
from test_times import Map

from looptimes.programs import Program
from looptimes.runs import Run
from looptimes.spans import Span
from looptimes.times import is_most, is_pace, most, pace
from looptimes.wishes import is_broken, is_closed, judge, latest, slowest
from looptimes.words import alike

SECONDS = 30
LARGE = Program([
    ("a", [("ever", [("work", 0, 5), ("say", "x"), ("sleep", 70)])]),
    ("b", [("ever", [("within", 12, [("work", 1, 10), ("sleep", 8)], [("say", "z")]), ("say", "y"), ("sleep", 30)])]),
    ("c", [("say", "w")]),
], late=9)
# Fewer standings, but many steps from one to another.
DENSE = Program([
    ("a", [("ever", [("work", 0, 99), ("say", "x"), ("sleep", 99)])]),
    ("b", [("ever", [("work", 0, 99), ("say", "y"), ("sleep", 99)])]),
], late=20)
WEIGHTS = [(name, word, value) for name in "ab" for word, value in zip(STATE_WORDS, (7, 3, -2, 5, 1))]
LONG = Program([
    ("a", [("ever", [("work", 0, 30), ("say", "x"), ("sleep", 3)])]),
    ("b", [("ever", [("within", 5, [("sleep", 9)], [("work", 1, 2)]), ("pass",)])]),
    ("c", [("ever", [("work", 0, 9), ("take", "q"), ("give", "q"), ("sleep", 1)])]),
], [("q", 1, 1)], late=9)


class LimitsTest(unittest.TestCase):
    def setUp(self):
        self.begun = time.process_time()

    def tearDown(self):
        self.assertLess(time.process_time() - self.begun, SECONDS)

    def test_the_programs(self):
        for program, standings, ways in ((LARGE, 2000, 8000), (DENSE, 1000, 20000)):
            chart = Map(program, [])
            self.assertTrue(standings < len(chart.steps) < 3000, len(chart.steps))
            self.assertGreater(sum(len(triples) for triples in chart.steps.values()), ways)

    def test_judge(self):
        for program in (LARGE, DENSE):
            for wish in (("never", "v"), ("soon", "x", "x", 200), ("late", "x", "x", 70), ("free",),
                         ("between", "v", "y", "x"), ("first", "y", "x")):
                kind, pairs = judge(program, wish)
                if wish[0] == "first":
                    self.assertEqual(kind, "broken")
                elif wish[0] != "soon":
                    self.assertEqual(kind, "holds")
                if kind == "holds":
                    self.assertTrue(is_closed(program, wish, pairs))
                    self.assertFalse(is_closed(program, wish, pairs[:-1]))

    def test_slowest_and_latest(self):
        wish = ("soon", "x", "x", 99)
        high = slowest(LARGE, "a", 1, wish)
        self.assertTrue(0 < high < 20)
        self.assertEqual(judge(LARGE.with_row("a", 1, ("work", 0, high)), wish)[0], "holds")
        self.assertEqual(judge(LARGE.with_row("a", 1, ("work", 0, high + 1)), wish)[0], "broken")
        late = latest(LARGE, wish)
        self.assertTrue(0 < late < 20)
        self.assertEqual(judge(LARGE.with_late(late), wish)[0], "holds")
        self.assertEqual(judge(LARGE.with_late(late + 1), wish)[0], "broken")

    def test_most(self):
        for program in (LARGE, DENSE):
            for a, b in (("x", "x"), (None, "y"), ("x", "y")):
                answer = most(program, WEIGHTS, a, b)
                if answer[0] == "grows":
                    _, events, i, j = answer
                    self.assertEqual(Run(program, events[:i + 1]).standing(), Run(program, events[:j + 1]).standing())
                    continue
                _, number, events, at, heights = answer
                run, ahead = Run(program, events), Run(program, events[:at + 1])
                self.assertEqual(run.spent(WEIGHTS) - ahead.spent(WEIGHTS), number)
                self.assertTrue(is_most(program, WEIGHTS, a, b, number, heights))
                self.assertFalse(is_most(program, WEIGHTS, a, b, number - 1, heights))

    def test_pace(self):
        for program in (LARGE, DENSE):
            for weights in (WEIGHTS, [("a", "runs", 1), ("b", "runs", -1)], [("b", "ready", 99), ("a", "ready", -99)]):
                kind, number, events, at, heights = pace(program, weights)
                self.assertEqual(kind, "pace")
                run, ahead = Run(program, events), Run(program, events[:at + 1])
                self.assertEqual(run.spent(weights) - ahead.spent(weights), number * (run.now() - ahead.now()))
                self.assertEqual(run.standing(), ahead.standing())
                self.assertTrue(is_pace(program, weights, number, heights))

    def test_alike(self):
        rows = [("ever", [("either", [("say", "x"), ("work", 0, 1)], [("say", "y")]), ("sleep", 1)])]
        program = Program([("a", rows), ("b", rows)], late=1)
        self.assertEqual(alike(program, program.slower(2)), ("alike",))

    def test_long_runs(self):
        dice = random.Random(1)
        events, _ = random_run(dice, LONG, 300)
        run = Run(LONG, events)
        self.assertEqual(len(run), 300)
        grown = Run(LONG)
        for event in events:
            grown = grown.further([event])
        self.assertEqual(grown, run)
        self.assertGreater(len(run.parts()), 3)
        self.assertFalse(is_broken(("late", "x", "x", 3), run))
        self.assertTrue(is_broken(("never", "x"), run))

    def test_many_denominators(self):
        program = Program([("a", [("ever", [("work", 0, 1), ("pass",)])])])
        events = [(0, None, []), (0, "a", 0)]
        now = Span(0)
        while len(events) < 300:
            now = now // 1 + 1 - Span(1, 10 ** 39 + len(events))
            events += [(now, "a", 1), (now, "a", 2), (now, None, [])]
        run = Run(program, events[:300])
        parts = run.parts()
        self.assertEqual(len(parts), 101)
        total = Span(0)
        for weight, _ in parts:
            total = total + weight
        self.assertEqual(total, 1)
        self.assertEqual(parts[-1][1], run.floored(Span(1, 2)))

    def test_large_integers(self):
        program = Program([("a", [("ever", [("sleep", 1)])])])
        large = 10 ** 39
        self.assertFalse(is_pace(program, [], large, []))
        _, number, _, _, heights = pace(program, [("a", "sleeps", 1)])
        lifted = [(standing, height + large) for standing, height in heights]
        self.assertTrue(is_pace(program, [("a", "sleeps", 1)], number, lifted))
        self.assertTrue(is_pace(program, [("a", "sleeps", 1)], Span(large + 1, large), lifted))
        self.assertFalse(is_pace(program, [("a", "sleeps", 1)], Span(large - 1, large), lifted))


if __name__ == "__main__":
    unittest.main()
