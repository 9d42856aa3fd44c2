"""Points 35 to 37, as they are written, and as steps tell them."""

import unittest

from looptimes.errors import BadPlace
from looptimes.programs import Program
from looptimes.runs import Run
from looptimes.spans import Span
from looptimes.standings import start, steps
from looptimes.times import is_most, is_pace, most, pace
from looptimes.wishes import is_broken, is_closed, judge
from looptimes.words import alike
from test_standings import follow

LOCK_ROWS = [("take", "lock"), ("say", "in"), ("pass",), ("work", 0, 1), ("say", "out"), ("give", "lock")]


def said(program, event):
    """Return the word that the event says, or None."""
    _, who, what = event
    if who is None or not isinstance(what, int):
        return None
    try:
        row = program.row(who, what)
    except BadPlace:
        return None
    return row[1] if row[0] == "say" else None


def explored(program, first_mark, change):
    """Return the pairs (standing, mark) that steps lead to; change gives the mark behind an event."""
    found = [(start(program), first_mark)]
    seen = set(found)
    for standing, mark in found:
        for event, time, after in steps(program, standing):
            pair = (after, change(mark, time, said(program, event)))
            if pair not in seen:
                seen.add(pair)
                found.append(pair)
    return found


class WrittenTest(unittest.TestCase):
    def test_35(self):
        program = Program([("a", [("ever", [("work", 1, 2), ("say", "x"), ("sleep", 3)])])], late=1)
        for wish in (("soon", "x", "x", 6), ("late", "x", "x", 4)):
            kind, pairs = judge(program, wish)
            self.assertEqual(kind, "holds")
            self.assertTrue(is_closed(program, wish, pairs))
        kind, events = judge(program, ("soon", "x", "x", 5))
        self.assertEqual(kind, "broken")
        self.assertTrue(is_broken(("soon", "x", "x", 5), Run(program, events)))
        weights = [("a", word, 1) for word in ("runs", "ready", "sleeps", "takes", "ended")]
        kind, number, events, at, heights = most(program, weights, "x", "x")
        self.assertEqual((kind, number), ("most", 6))
        self.assertEqual(events[-1][0] - events[at][0], 6)
        self.assertTrue(is_most(program, weights, "x", "x", 6, heights))
        kind, number, events, at, heights = pace(program, weights)
        self.assertEqual((kind, number), ("pace", 1))
        self.assertTrue(is_pace(program, weights, 1, heights))
        kind, number, events, at, heights = pace(program, [("a", "runs", 1)])
        self.assertEqual((kind, number.text()), ("pace", "2/5"))
        self.assertTrue(is_pace(program, [("a", "runs", 1)], Span(2, 5), heights))

    def test_36(self):
        program = Program([("a", [("within", 2, [("sleep", 2)], [("say", "missed")]), ("say", "done")])])
        begun = [(0, None, []), (0, "a", 0), (0, "a", 1)]
        slept = Run(program, begun + [(2, None, [("a", "sleep")]), (2, "a", 3), (2, "a", 4)])
        self.assertEqual(slept.log(), [(2, "done")])
        missed = Run(program, begun + [(2, None, [("a", "within")]), (2, "a", 2), (2, "a", 3), (2, "a", 4)])
        self.assertEqual(missed.log(), [(2, "missed"), (2, "done")])
        either = Program([("a", [("either", [("say", "missed")], []), ("say", "done")])])
        self.assertEqual(alike(program, either), ("alike",))

    def test_37(self):
        locked = Program([("a", LOCK_ROWS), ("b", LOCK_ROWS)], [("lock", 1, 1)])
        free = Program([("a", LOCK_ROWS[1:]), ("b", LOCK_ROWS[1:])], [("lock", 1, 1)])
        wish = ("between", "in", "out", "in")
        self.assertEqual(judge(locked, wish)[0], "holds")
        self.assertEqual(judge(free, wish)[0], "broken")
        events = [(0, None, []), (0, "a", 0), (0, "a", 1), (0, "a", 2), (0, "b", 0), (0, None, [])]
        run = Run(locked, events + [(Span(1, 2), "a", 3)])
        self.assertEqual(run.standing()[2][1][1], "takes")
        self.assertEqual(run.floored(Span(1, 2)).events(), events + [(1, "a", 3)])
        self.assertEqual(run.floored().events(), events + [(0, "a", 3)])
        self.assertEqual(run.parts(), [(Span(1, 2), run.floored()), (Span(1, 2), run.floored(Span(1, 2)))])


class ExamplesTest(unittest.TestCase):
    def test_35(self):
        program = Program([("a", [("ever", [("work", 1, 2), ("say", "x"), ("sleep", 3)])])], late=1)
        gaps = set()

        def change(since, time, word):
            if word is None:
                return None if since is None else since + time
            if since is not None:
                gaps.add(since)
            return 0

        explored(program, None, change)
        self.assertEqual(gaps, {4, 5, 6})

    def test_36(self):
        program = Program([("a", [("within", 2, [("sleep", 2)], [("say", "missed")]), ("say", "done")])])
        pairs = explored(program, (), lambda words, time, word: words if word is None else (*words, word))
        self.assertEqual({words for _, words in pairs}, {(), ("done",), ("missed",), ("missed", "done")})
        self.assertEqual({words for standing, words in pairs if not steps(program, standing)},
                         {("done",), ("missed", "done")})

    def test_37(self):
        def change(inside, time, word):
            return inside + {"in": 1, "out": -1}.get(word, 0)

        locked = Program([("a", LOCK_ROWS), ("b", LOCK_ROWS)], [("lock", 1, 1)])
        self.assertEqual({inside for _, inside in explored(locked, 0, change)}, {0, 1})
        free = Program([("a", LOCK_ROWS[1:]), ("b", LOCK_ROWS[1:])], [("lock", 1, 1)])
        self.assertEqual({inside for _, inside in explored(free, 0, change)}, {0, 1, 2})

    def test_37_run(self):
        program = Program([("a", LOCK_ROWS), ("b", LOCK_ROWS)], [("lock", 1, 1)])
        for moment in (0, 1):
            events = [(0, None, []), (0, "a", 0), (0, "a", 1), (0, "a", 2), (0, "b", 0), (0, None, []),
                      (moment, "a", 3)]
            self.assertEqual(follow(program, events), (
                (0,), (), ((4, "runs", 0, 0, 0), (0, "takes", 0, 0, 0)), ((0, (1,)),)))


if __name__ == "__main__":
    unittest.main()
