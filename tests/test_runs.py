"""Points 20 to 25: runs."""

import random
import unittest
from fractions import Fraction

from model import World
from samples import (
    BEAT, FREE, LOCK_ROWS, LOCKED, STATE_WORDS, any_objects, as_lists, as_tuples, fraction, number, plained, random_run,
    shown, told)
from test_model import random_program

from looptimes.errors import BadEvent, BadShift, BadWeights
from looptimes.programs import Program
from looptimes.runs import Run
from looptimes.spans import Span
from looptimes.standings import start, steps

HALF = Span(1, 2)
LOCK_RUN = [(0, None, []), (0, "a", 0), (0, "a", 1), (0, "a", 2), (0, "b", 0), (0, None, []), (HALF, "a", 3)]
# One event of each kind: an end, an either, a sleep and a deadline that are taken, a fraction for each of them.
RICH = Program([
    ("a", [("either", [("say", "x")], []), ("work", 0, 2), ("sleep", 2), ("say", "y")]),
    ("b", [("within", 3, [("take", "q")], [("say", "z")])]),
], [("q", 0, 1)], late=2)
RICH_RUN = [
    (0, None, []), (0, "a", (0, 0)), (0, "a", 1), (Span(3, 2), "a", 2), (Span(3, 2), "a", 3), (Span(3, 2), "b", 0),
    (Span(3, 2), "b", 1), (Span(14, 3), None, [("a", "sleep"), ("b", "within")]), (Span(14, 3), "a", 4),
    (Span(14, 3), "a", 5), (Span(14, 3), "b", 2), (Span(14, 3), "b", 3)]

ROOM = ("0", "1", "Span 1/2")


class RunsTest(unittest.TestCase):
    def refuse(self, program, events, index):
        with self.assertRaises(BadEvent, msg=(program.text(), events)) as caught:
            Run(program, events)
        self.assertEqual(caught.exception.index, index, (program.text(), events))
        self.assertIsInstance(caught.exception.index, int)

    def same(self, got, wanted):
        self.assertEqual(shown(got), shown(wanted))


class AcceptedTest(RunsTest):
    def test_the_empty_run(self):
        for run in (Run(LOCKED), Run(LOCKED, []), Run(LOCKED, ()), Run(program=LOCKED, events=())):
            self.same(run.events(), [])
            self.assertEqual(len(run), 0)
            self.same(run.now(), 0)
            self.same(run.log(), [])
            self.same(run.standing(), start(LOCKED))
            self.assertIs(run.program, LOCKED)

    def test_events(self):
        for program, events in ((LOCKED, LOCK_RUN), (RICH, RICH_RUN)):
            for many in range(len(events) + 1):
                run = Run(program, events[:many])
                self.same(run.events(), events[:many])
                self.assertEqual(len(run), many)
                self.same(Run(program, as_tuples(events[:many])).events(), events[:many])
                self.same(Run(program, as_lists(events[:many])).events(), events[:many])

    def test_moments_are_returned_plain(self):
        events = [(Span(0), None, []), (Span(6, 3), "a", 0)]
        program = Program([("a", [("work", 1, 3)])])
        self.same(Run(program, events).events(), [(0, None, []), (2, "a", 0)])
        self.same(Run(program, events).now(), 2)
        self.same(Run(program, [(0, None, []), (Span(5, 2), "a", 0)]).now(), Span(5, 2))

    def test_what_is_returned_is_new(self):
        run = Run(RICH, RICH_RUN)
        for event in run.events():
            if event[1] is None:
                event[2].append("spoilt")
        run.events().pop()
        run.log().append("spoilt")
        self.same(run.events(), RICH_RUN)
        self.assertEqual(len(run.log()), 3)

    def test_what_is_passed_is_not_kept(self):
        passed = as_lists(RICH_RUN)
        run = Run(RICH, passed)
        self.same(passed, as_lists(RICH_RUN))
        passed[7][2].pop()
        passed[1][2][0] = 9
        passed.pop()
        self.same(run.events(), RICH_RUN)

    def test_a_run_that_has_come_to_rest(self):
        self.refuse(RICH, RICH_RUN + [(Span(14, 3), None, [])], len(RICH_RUN))
        self.refuse(RICH, RICH_RUN + [(9, None, [])], len(RICH_RUN))
        self.refuse(RICH, RICH_RUN + [(Span(14, 3), "a", 6)], len(RICH_RUN))

    def test_a_missed_deadline(self):
        rows = [("within", 1, [("pass",), ("work", 1, 1), ("sleep", 5)], [("say", "z")])]
        program = Program([("a", rows), ("b", [("work", 2, 2)])])
        events = [(0, None, []), (0, "a", 0), (0, "a", 1), (2, "b", 0), (2, "b", 1), (2, None, [("a", "within")]),
                  (3, "a", 2), (3, "a", 3), (3, "a", 4), (3, "a", 5)]
        self.same(Run(program, events).log(), [(3, "z")])
        self.same(Run(program, events[:6]).standing()[2][0], (2, "runs", 0, 2, 0))

    def test_an_overdue_sleep_is_not_left(self):
        program = Program([("a", [("sleep", 1)]), ("b", [("work", 2, 2), ("pass",)])], late=3)
        events = [(0, None, []), (0, "a", 0), (2, "b", 0), (2, "b", 1), (2, None, [("a", "sleep")])]
        Run(program, events)
        self.refuse(program, events[:4] + [(2, None, [])], 4)
        on_time = Program([("a", [("sleep", 2)]), ("b", [("work", 2, 2), ("pass",)])], late=3)
        Run(on_time, events)
        Run(on_time, events[:4] + [(2, None, [])])
        self.refuse(on_time, events[:4] + [(3, None, [("a", "sleep")])], 4)


class RefusedTest(RunsTest):
    def test_no_list(self):
        for thing in any_objects():
            if not isinstance(thing, (list, tuple)):
                self.refuse(LOCKED, thing, 0)

    def test_a_changed_moment(self):
        for at, (moment, who, what) in enumerate(RICH_RUN):
            changed = [moment + 100, moment - 100, moment - Span(1, 9), None, True, "0", [moment]]
            # At 3 a work is done, at 7 there is a look: these have some room.
            changed += [moment + HALF + HALF + Span(1, 9)] if at in (3, 7) else [moment + Span(1, 9)]
            for other in changed:
                if at in (3, 7) and other == moment - Span(1, 9):
                    continue
                self.refuse(RICH, RICH_RUN[:at] + [(other, who, what)] + RICH_RUN[at + 1:], at)

    def test_bounds_of_a_work(self):
        program = Program([("a", [("work", 1, 3), ("work", 0, 0)])])
        for moment in (1, Span(1), Span(4, 3), 2, Span(3), 3):
            Run(program, [(0, None, []), (moment, "a", 0), (moment, "a", 1)])
            self.refuse(program, [(0, None, []), (moment, "a", 0), (moment + Span(1, 99), "a", 1)], 2)
        for moment in (-1, 0, Span(98, 99), Span(10 ** 40 - 1, 10 ** 40), Span(301, 100), 4, False, True, "1", None,
                       [2]):
            self.refuse(program, [(0, None, []), (moment, "a", 0)], 1)

    def test_bounds_of_a_look(self):
        program = Program([("a", [("sleep", 2)])], late=2)
        events = [(0, None, []), (0, "a", 0)]
        for moment in (2, Span(2), Span(9, 4), 3, 4):
            Run(program, events + [(moment, None, [("a", "sleep")])])
            self.refuse(program, events + [(moment, None, [])], 2)
        for moment in (0, 1, Span(199, 100), Span(401, 100), 5, "2", True, None):
            self.refuse(program, events + [(moment, None, [("a", "sleep")])], 2)
        for moment in (1, HALF, -1, Span(1, 10 ** 40)):
            self.refuse(program, [(moment, None, [])], 0)

    def test_an_event_left_out_put_in_or_exchanged(self):
        for at in range(len(RICH_RUN) - 1):
            self.refuse(RICH, RICH_RUN[:at] + RICH_RUN[at + 1:], at)
        for at, event in enumerate(RICH_RUN):
            self.refuse(RICH, RICH_RUN[:at + 1] + [event] + RICH_RUN[at + 1:], at + 1)
        for at in range(len(RICH_RUN) - 1):
            self.refuse(RICH, RICH_RUN[:at] + [RICH_RUN[at + 1], RICH_RUN[at]] + RICH_RUN[at + 2:], at)

    def test_other_names_places_and_branches(self):
        for at, (moment, who, what) in enumerate(RICH_RUN):
            for other in (None, "a", "b", "c", "", 0, True, ["a"], Span(1, 2)):
                if shown(other) != shown(who):
                    self.refuse(RICH, RICH_RUN[:at] + [(moment, other, what)] + RICH_RUN[at + 1:], at)
        for what in (0, 1, (0, 2), (0, -1), (1, 0), (0, 0, 0), (0,), (False, 0), (0, False), (Span(0), 0), (0, Span(0)),
                     "00", None, ((0, 0),), {0: 0}):
            self.refuse(RICH, [(0, None, []), (0, "a", what)], 1)
        Run(RICH, [(0, None, []), (0, "a", [0, 1])])
        for what in (0, 2, True, Span(1), "1", (1, 0), [1], None):
            self.refuse(RICH, RICH_RUN[:2] + [(0, "a", what)], 2)

    def test_other_lists_of_what_is_taken(self):
        moment = RICH_RUN[7][0]
        sleep, within = ("a", "sleep"), ("b", "within")
        for what in ([], [sleep], [within], [sleep, sleep], [within, sleep], [sleep, within, sleep],
                     [("a", "within"), within], [sleep, ("b", "sleep")], [("b", "sleep"), within],
                     [sleep, ("c", "within")],
                     [("sleep", "a"), within], [sleep, ("b", "within", 0)], [sleep, ("b",)], [sleep, "bw"], sleep,
                     {sleep: within}, None, "", [sleep, (None, "within")], [sleep, ("b", None)],
                     [sleep, (1, "within")]):
            self.refuse(RICH, RICH_RUN[:7] + [(moment, None, what)], 7)
        for what in ([["a", "sleep"], within], (sleep, within), (["a", "sleep"], ["b", "within"])):
            self.same(Run(RICH, RICH_RUN[:7] + [(moment, None, what)]).events(), RICH_RUN[:8])
        program = Program([("a", [("sleep", 2)]), ("b", [("within", 2, [("sleep", 9)], [])])])
        events = [(0, None, []), (0, "a", 0), (0, "b", 0), (0, "b", 1)]
        for what in ([sleep], [within], [sleep, within], [within, sleep]):
            self.same(Run(program, events + [(2, None, what)]).events(), events + [(2, None, what)])
        self.refuse(program, events + [(2, None, [])], 4)

    def test_any_objects_at_every_depth(self):
        for thing in any_objects():
            for at in range(len(RICH_RUN)):
                self.refuse(RICH, RICH_RUN[:at] + [thing] + RICH_RUN[at:], at)
                moment, who, what = RICH_RUN[at]
                rest = RICH_RUN[at + 1:]
                for part, event in enumerate([(thing, who, what), (moment, thing, what), (moment, who, thing)]):
                    known = [shown(RICH_RUN[at][part]), shown(as_tuples(RICH_RUN[at][part]))]
                    # The work at 3 can be done at several moments.
                    if shown(thing, 4) not in (ROOM if at == 3 and part == 0 else known):
                        self.refuse(RICH, RICH_RUN[:at] + [event] + rest, at)
                self.refuse(RICH, RICH_RUN[:at] + [(moment, who, what, thing)] + rest, at)
                self.refuse(RICH, RICH_RUN[:at] + [(moment, who)] + rest, at)
            for what in ((thing, 0), (0, thing)):
                if not isinstance(thing, int) or isinstance(thing, bool) or thing not in (0, 1):
                    self.refuse(RICH, [RICH_RUN[0], (0, "a", what)], 1)
            for what in ([thing, RICH_RUN[7][2][1]], [RICH_RUN[7][2][0], thing], [("a", thing), ("b", "within")],
                         [(thing, "sleep"), ("b", "within")]):
                if thing != "a" or what[0] != ("a", "sleep"):
                    self.refuse(RICH, RICH_RUN[:7] + [(RICH_RUN[7][0], None, what)], 7)

    def test_the_first_wrong_event(self):
        self.refuse(LOCKED, LOCK_RUN[:3] + [None, None], 3)
        self.refuse(LOCKED, LOCK_RUN[:6] + [(Span(3, 2), "a", 3), 7], 6)


class FurtherTest(RunsTest):
    def test_further(self):
        for at in range(len(RICH_RUN) + 1):
            run = Run(RICH, RICH_RUN[:at])
            longer = run.further(RICH_RUN[at:])
            self.same(longer.events(), RICH_RUN)
            self.assertEqual(longer, Run(RICH, RICH_RUN))
            self.same(longer.standing(), Run(RICH, RICH_RUN).standing())
            self.same(run.further(events=as_lists(RICH_RUN[at:])).events(), RICH_RUN)
            self.same(run.events(), RICH_RUN[:at])
            self.assertEqual(run.further(()), run)
            self.assertIs(longer.program, RICH)

    def test_further_refuses(self):
        run = Run(RICH, RICH_RUN[:5])
        for thing in any_objects():
            if isinstance(thing, (list, tuple)):
                continue
            for events, index in ((thing, 5), ([thing], 5), (RICH_RUN[5:7] + [thing], 7)):
                with self.assertRaises(BadEvent) as caught:
                    run.further(events)
                self.assertEqual(caught.exception.index, index)
        with self.assertRaises(BadEvent) as caught:
            run.further(RICH_RUN)
        self.assertEqual(caught.exception.index, 5)
        self.same(run.events(), RICH_RUN[:5])


class ToldTest(RunsTest):
    def test_now_and_log(self):
        run = Run(RICH, RICH_RUN)
        self.same(run.now(), Span(14, 3))
        self.same(run.log(), [(0, "x"), (Span(14, 3), "y"), (Span(14, 3), "z")])
        self.same(Run(RICH, RICH_RUN[:2]).log(), [])
        self.same(Run(RICH, RICH_RUN[:3]).log(), [(0, "x")])

    def test_standing(self):
        run = Run(RICH, RICH_RUN[:7])
        self.same(run.standing(), ((), (), ((3, "sleeps", 2, 0, 0), (1, "takes", 0, 1, 3)), ((0, (1,)),)))
        run = Run(RICH, RICH_RUN[:4])
        self.same(run.standing(), ((0, 1), (), ((3, "runs", 0, 0, 0), (0, "ready", 0, 0, 0)), ((0, ()),)))
        program = Program([("a", [("within", 3, [("sleep", 2)], [])]), ("b", [("work", 0, 1)])])
        run = Run(program, [(0, None, []), (0, "a", 0), (0, "a", 1), (Span(2, 3), "b", 0)])
        self.same(run.standing(), ((1,), (), ((1, "sleeps", Span(4, 3), 1, Span(7, 3)), (1, "runs", 0, 0, 0)), ()))

    def test_standing_of_lateness(self):
        program = Program([("a", [("sleep", 1)]), ("b", [("within", 2, [("sleep", 3)], [])])], late=1)
        events = [(0, None, []), (0, "a", 0), (0, "b", 0), (0, "b", 1), (Span(3, 2), None, [("a", "sleep")])]
        self.same(Run(program, events).standing(),
                  ((0,), (), ((1, "runs", 0, 0, 0), (1, "sleeps", Span(3, 2), 1, HALF)), ()))

    def test_standings_of_whole_runs_are_those_of_steps(self):
        dice = random.Random(5)
        for _ in range(60):
            program = random_program(dice)
            run = Run(program)
            while len(run) < 12 and steps(program, run.standing()):
                (_, who, what), time, after = dice.choice(steps(program, run.standing()))
                run = run.further([(run.now() + time, who, what)])
                self.same(run.standing(), after)

    def test_spent(self):
        run = Run(RICH, RICH_RUN)
        told_times = {
            ("a", "runs"): Span(3, 2), ("a", "sleeps"): Span(19, 6),
            ("b", "ready"): Span(3, 2), ("b", "takes"): Span(19, 6)}
        for name in ("a", "b"):
            for word in STATE_WORDS:
                time = told_times.get((name, word), 0)
                self.same(run.spent([(name, word, 1)]), time)
                self.same(run.spent(weights=[[name, word, -99]]), (time * -99) if time == 0 else _plain(time * -99))
        self.same(run.spent([]), 0)
        self.same(run.spent((("a", "runs", 2), ("b", "takes", 6))), 22)
        self.same(Run(RICH).spent([("a", "ready", 5)]), 0)

    def test_spent_ended_and_ready_behind_the_first(self):
        program = Program([("a", []), ("b", [("work", 4, 4), ("pass",), ("work", 2, 2)]), ("c", [("pass",)])])
        events = [(0, None, []), (0, "a", 0), (4, "b", 0), (4, "b", 1), (4, "c", 0), (4, None, []), (6, "b", 2)]
        run = Run(program, events)
        self.same(run.spent([("a", "ended", 1)]), 6)
        self.same(run.spent([("b", "runs", 1)]), 6)
        self.same(run.spent([("c", "ready", 1)]), 6)

    def test_spent_refuses(self):
        run = Run(RICH, RICH_RUN)
        check_weights(self, run.spent)


def _plain(span):
    return span.over if span.under == 1 else span


def check_weights(case, call):
    """Check that the call refuses weights (for tasks `a` and `b`, no `c`) as point 30 says."""
    good = [("a", "runs", 1), ("a", "ready", -99), ("b", "runs", 99), ("b", "ended", 0)]
    call(good)
    call(as_lists(good))
    call(as_tuples(good))
    wrong = [("a", "runs", 100), ("a", "runs", -100), ("c", "runs", 1), ("a", "run", 1), ("a", "runs"),
             ("a", "runs", 1, 1), ("runs", "a", 1), ("a", "runs", True), ("a", "runs", Span(1)), ("a", "runs", "1"),
             (None, "runs", 1), ("a", None, 1), (["a"], "runs", 1), ("a", ["runs"], 1), ({}, {}, 1), ("ab", "runs", 1),
             ("a", "", 1), ("", "runs", 1), ("a", "sleep", 1), ("a", "work", 1)]
    for item in wrong + any_objects():
        for at in range(len(good) + 1):
            with case.assertRaises(BadWeights, msg=item) as caught:
                call(good[:at] + [item, None])
            case.assertEqual(caught.exception.index, at)
    for item in (("a", "runs", 1), ["a", "runs", 5], ("b", "ended", 0)):
        with case.assertRaises(BadWeights) as caught:
            call(good + [item])
        case.assertEqual(caught.exception.index, len(good))
    for thing in any_objects():
        if not isinstance(thing, (list, tuple)):
            with case.assertRaises(BadWeights) as caught:
                call(thing)
            case.assertEqual(caught.exception.index, 0)


class FlooredTest(RunsTest):
    def test_floored(self):
        run = Run(RICH, RICH_RUN)
        for shift, work, look in ((0, 1, 4), (Span(0), 1, 4), (Span(1, 3), 1, 5), (HALF, 2, 5), (Span(99, 100), 2, 5),
                                  (Span(3, 10), 1, 4)):
            moments = [0] * 3 + [work] * 4 + [look] * 5
            self.same(run.floored(shift).events(),
                      [(moment, who, what) for moment, (_, who, what) in zip(moments, RICH_RUN)])
        self.assertEqual(run.floored(), run.floored(shift=0))
        self.assertIs(run.floored().program, RICH)
        self.same(run.events(), RICH_RUN)

    def test_floored_refuses(self):
        run = Run(RICH, RICH_RUN)
        for shift in [1, -1, Span(1), Span(-1, 10 ** 39), Span(100, 99), 2, True, False, None, "0", "", [], [0], (), {},
                      run, RICH]:
            with self.assertRaises(BadShift) as caught:
                run.floored(shift)
            self.assertIs(caught.exception.shift, shift)

    def test_parts(self):
        run = Run(RICH, RICH_RUN)
        parts = run.parts()
        self.same([weight for weight, _ in parts], [Span(1, 3), Span(1, 6), HALF])
        self.assertEqual([part for _, part in parts], [run.floored(), run.floored(Span(1, 3)), run.floored(HALF)])
        for whole in (Run(RICH), Run(RICH, RICH_RUN[:3]), run.floored()):
            self.assertIsInstance(whole.parts(), list)
            self.assertIsInstance(whole.parts()[0], tuple)
            self.same([weight for weight, _ in whole.parts()], [1])
            self.assertEqual([part for _, part in whole.parts()], [whole])


class EqualityTest(RunsTest):
    def test_equality(self):
        run = Run(LOCKED, LOCK_RUN)
        self.assertTrue(run == Run(Program([("a", LOCK_ROWS), ("b", LOCK_ROWS)], [("lock", 1, 1)]), as_lists(LOCK_RUN)))
        self.assertFalse(run != Run(LOCKED, LOCK_RUN))
        for other in (Run(LOCKED, LOCK_RUN[:6]), Run(LOCKED), Run(LOCKED, LOCK_RUN[:6] + [(1, "a", 3)]),
                      Run(LOCKED.with_late(1), LOCK_RUN)):
            self.assertFalse(run == other)
            self.assertTrue(run != other)
        for other in any_objects() + [LOCK_RUN, run.events(), LOCKED]:
            self.assertFalse(run == other)
            self.assertTrue(run != other)
        self.assertEqual(Run(LOCKED), Run(LOCKED))
        self.assertNotEqual(Run(LOCKED), Run(FREE))
        self.assertEqual(Run(BEAT, [(Span(0), None, [])]), Run(BEAT, [(0, None, ())]))


class ModelTest(RunsTest):
    """Random runs, compared with a second account of the loop."""

    def test_random_runs(self):
        for seed in range(250):
            dice = random.Random(seed)
            program = random_program(dice)
            events, worlds = random_run(dice, program, 30)
            run = Run(program, events)
            self.same(run.events(), events)
            self.same(run.standing(), plained(worlds[-1].standing()))
            self.same(run.now(), number(Fraction(worlds[-1].now)))
            log = [(event[0], world.word()) for event, world in zip(events, worlds) if world.word() is not None]
            self.same(run.log(), log)
            self.check_spent(dice, run, worlds)
            self.check_parts(run)

    def check_spent(self, dice, run, worlds):
        weights = [(name, word, dice.randint(-99, 99)) for name in run.program.names() for word in STATE_WORDS]
        total = Fraction(0)
        for world, after in zip(worlds, worlds[1:]):
            states = world.standing()[2]
            words = [(name, state[1]) for name, state in zip(run.program.names(), states)]
            total += sum(weight for name, word, weight in weights if (name, word) in words) * (after.now - world.now)
        self.same(run.spent(weights), number(Fraction(total)))

    def check_parts(self, run):
        parts = run.parts()
        total = Fraction(0)
        means = [Fraction(0)] * len(run)
        for weight, part in parts:
            self.assertGreater(weight, 0)
            self.assertEqual(part, run.floored(number(total)))
            self.assertTrue(all(isinstance(event[0], int) for event in part.events()))
            means = [mean + fraction(weight) * event[0] for mean, event in zip(means, part.events())]
            total += fraction(weight)
        self.assertEqual(total, 1)
        self.assertEqual(means, [fraction(event[0]) for event in run.events()])
        self.assertEqual(len({shown(part.events()) for _, part in parts}), len(parts))

    def test_random_changes(self):
        refused = 0
        for seed in range(600):
            dice = random.Random(seed)
            program = random_program(dice)
            events, _ = random_run(dice, program, 25)
            for _ in range(4):
                changed = self.changed(dice, list(events))
                index = first_wrong(program, changed)
                if index is None:
                    self.same(Run(program, changed).events(), changed)
                else:
                    refused += 1
                    self.refuse(program, changed, index)
        self.assertGreater(refused, 1000)

    def changed(self, dice, events):
        at = dice.randrange(len(events))
        moment, who, what = events[at]
        kind = dice.randrange(6)
        if kind == 0:
            events[at] = (number(fraction(moment) + Fraction(dice.choice([-3, -2, -1, 1, 2, 3]), 2)), who, what)
        elif kind == 1:
            del events[at]
        elif kind == 2:
            events.insert(at, dice.choice(events))
        elif kind == 3:
            other = dice.randrange(len(events))
            events[at], events[other] = events[other], events[at]
        elif kind == 4 and isinstance(what, list):
            events[at] = (moment, who, dice.sample(what, dice.randint(0, len(what))))
        elif kind == 4:
            events[at] = (moment, who, dice.choice([0, 1, 2, (0, 1), (1, 0)]))
        else:
            later = [(number(fraction(event[0]) + Fraction(1, 2)), *event[1:]) for event in events[at:]]
            events = events[:at] + later
        return events


def first_wrong(program, events):
    """Return the index of the first event that the second account of the loop does not allow, or None."""
    world = World(program)
    for index, event in enumerate(events):
        found = [after for known, after in world.followers_at(fraction(event[0])) if shown(told(known)) == shown(event)]
        if not found:
            return index
        world = found[0]
    return None


if __name__ == "__main__":
    unittest.main()
