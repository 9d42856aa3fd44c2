"""Points 16 to 19, 23 and 24: standings and steps, written out by hand."""

import unittest

from looptimes.programs import Program
from looptimes.standings import start, steps


def one(rows, counters=(), late=0):
    """Return the program with one task `a`."""
    return Program([("a", rows)], counters, late=late)


def follow(program, events):
    """Return the standing behind a list of events with absolute moments; each must be one of the steps."""
    standing, now = start(program), 0
    for moment, who, what in events:
        found = [(time, after) for event, time, after in steps(program, standing)
                 if event == (moment - now, who, what)]
        assert len(found) == 1, (events, (moment, who, what), steps(program, standing))
        assert found[0][0] == moment - now
        now, standing = moment, found[0][1]
    return standing


def reached(program):
    """Return all standings that steps lead to."""
    found = [start(program)]
    seen = set(found)
    for standing in found:
        for _, _, after in steps(program, standing):
            if after not in seen:
                seen.add(after)
                found.append(after)
    return found


class StandingsTest(unittest.TestCase):
    def check(self, program, standing, wanted):
        """Compare the steps with a list of triples, in any order, kinds of values included."""
        got = steps(program, standing)
        self.assertIs(type(got), list)
        self.assertEqual(sorted(map(repr, got)), sorted(map(repr, wanted)))


class StartTest(StandingsTest):
    def test_start(self):
        program = Program([("a", [("pass",)]), ("b", []), ("c", [("ever", [("pass",)])])], [("q", 1, 2), ("r", 0, 9)])
        ready = (0, "ready", 0, 0, 0)
        self.assertEqual(start(program), ((), (0, 1, 2), (ready, ready, ready), ((1, ()), (0, ()))))
        self.assertEqual(start(program=one([])), ((), (0,), (ready,), ()))

    def test_first_look(self):
        program = Program([("a", [("pass",)]), ("b", [])], [("q", 1, 2)], late=9)
        after = ((0, 1), (), ((0, "runs", 0, 0, 0), (0, "ready", 0, 0, 0)), ((1, ()),))
        self.check(program, start(program), [((0, None, []), 0, after)])
        self.assertEqual(steps(program=program, standing=start(program)), [((0, None, []), 0, after)])

    def test_lists_for_tuples_and_new_lists(self):
        program = Program([("a", [("take", "q")]), ("b", [("sleep", 2)])], [("q", 0, 1)], late=1)
        for standing in reached(program):
            wanted = repr(steps(program, standing))
            self.assertEqual(repr(steps(program, as_lists(standing))), wanted)
            for event, _, _ in steps(program, standing):
                if event[1] is None:
                    event[2].append("spoilt")
            self.assertEqual(repr(steps(program, standing)), wanted)

    def test_a_standing_that_is_passed_is_not_changed(self):
        program = Program([("a", [("take", "q")]), ("b", [("sleep", 2), ("give", "q")])], [("q", 0, 1)], late=1)
        for standing in reached(program):
            passed = as_lists(standing)
            steps(program, passed)
            self.assertEqual(passed, as_lists(standing))


def as_lists(thing):
    """Return a copy in which lists stand for tuples."""
    return [as_lists(item) for item in thing] if isinstance(thing, tuple) else thing


class RowsTest(StandingsTest):
    def runs(self, place, missed=0, left=0):
        return ((0,), (), ((place, "runs", 0, missed, left),), ())

    def begun(self, program):
        return follow(program, [(0, None, [])])

    def test_work(self):
        program = one([("work", 2, 4)])
        wanted = [((time, "a", 0), time, self.runs(1)) for time in (2, 3, 4)]
        self.check(program, self.begun(program), wanted)

    def test_work_lets_time_pass_for_all(self):
        program = Program([
            ("a", [("sleep", 1)]), ("b", [("within", 2, [("sleep", 9)], [])]), ("c", [("work", 3, 3)])])
        standing = follow(program, [(0, None, []), (0, "a", 0), (0, "b", 0), (0, "b", 1)])
        self.assertEqual(standing, (
            (2,), (), ((0, "sleeps", 1, 0, 0), (1, "sleeps", 9, 1, 2), (0, "runs", 0, 0, 0)), ()))
        self.check(program, standing, [((3, "c", 0), 3, (
            (2,), (), ((0, "sleeps", -2, 0, 0), (1, "sleeps", 6, 1, -1), (1, "runs", 0, 0, 0)), ()))])

    def test_say_and_end(self):
        program = one([("say", "x")])
        self.check(program, self.begun(program), [((0, "a", 0), 0, self.runs(1))])
        ended = ((), (), ((1, "ended", 0, 0, 0),), ())
        self.check(program, self.runs(1), [((0, "a", 1), 0, ended)])
        self.check(program, ended, [])

    def test_a_task_without_rows(self):
        program = Program([("a", []), ("b", [])])
        after = ((1,), (), ((0, "ended", 0, 0, 0), (0, "runs", 0, 0, 0)), ())
        self.check(program, follow(program, [(0, None, [])]), [((0, "a", 0), 0, after)])
        ended = (0, "ended", 0, 0, 0)
        self.check(program, after, [((0, "b", 0), 0, ((), (), (ended, ended), ()))])

    def test_either(self):
        program = one([("either", [("say", "x")], [("say", "y")]), ("say", "z")])
        self.check(program, self.begun(program), [
            ((0, "a", (0, 0)), 0, self.runs(1)), ((0, "a", (0, 1)), 0, self.runs(2))])
        self.check(program, self.runs(1), [((0, "a", 1), 0, self.runs(3))])
        self.check(program, self.runs(2), [((0, "a", 2), 0, self.runs(3))])

    def test_either_with_empty_lists(self):
        program = one([("either", [], []), ("say", "z")])
        self.check(program, self.begun(program), [
            ((0, "a", (0, 0)), 0, self.runs(1)), ((0, "a", (0, 1)), 0, self.runs(1))])
        program = one([("either", [], [("either", [("say", "x")], [])])])
        self.check(program, self.begun(program), [
            ((0, "a", (0, 0)), 0, self.runs(3)), ((0, "a", (0, 1)), 0, self.runs(1))])
        self.check(program, self.runs(1), [
            ((0, "a", (1, 0)), 0, self.runs(2)), ((0, "a", (1, 1)), 0, self.runs(3))])

    def test_ever(self):
        program = one([("say", "x"), ("ever", [("either", [("say", "y")], []), ("sleep", 2), ("either", [], [])])])
        standing = follow(program, [(0, None, []), (0, "a", 0)])
        self.assertEqual(standing, self.runs(1))
        self.check(program, standing, [((0, "a", 1), 0, self.runs(2))])
        self.check(program, self.runs(5), [
            ((0, "a", (5, 0)), 0, self.runs(2)), ((0, "a", (5, 1)), 0, self.runs(2))])
        self.check(program, self.runs(3), [((0, "a", 3), 0, self.runs(4))])

    def test_sleep(self):
        program = one([("sleep", 5), ("say", "x")])
        asleep = ((), (), ((0, "sleeps", 5, 0, 0),), ())
        self.check(program, self.begun(program), [((0, "a", 0), 0, asleep)])
        self.check(program, asleep, [((5, None, [("a", "sleep")]), 5, self.runs(1))])

    def test_pass(self):
        program = Program([("a", [("pass",), ("say", "x")]), ("b", [("pass",)])])
        standing = follow(program, [(0, None, [])])
        after = ((1,), (0,), ((1, "ready", 0, 0, 0), (0, "runs", 0, 0, 0)), ())
        self.check(program, standing, [((0, "a", 0), 0, after)])
        turned = ((), (0, 1), ((1, "ready", 0, 0, 0), (1, "ready", 0, 0, 0)), ())
        self.check(program, after, [((0, "b", 0), 0, turned)])
        self.check(program, turned, [((0, None, []), 0, (
            (0, 1), (), ((1, "runs", 0, 0, 0), (1, "ready", 0, 0, 0)), ()))])


class CountersTest(StandingsTest):
    def test_take_and_give(self):
        program = one([("take", "r"), ("give", "r"), ("give", "r")], [("q", 3, 3), ("r", 2, 2)])

        def runs(place, value):
            return ((0,), (), ((place, "runs", 0, 0, 0),), ((3, ()), (value, ())))

        self.check(program, runs(0, 2), [((0, "a", 0), 0, runs(1, 1))])
        self.check(program, runs(1, 1), [((0, "a", 1), 0, runs(2, 2))])
        self.check(program, runs(2, 2), [((0, "a", 2), 0, runs(3, 2))])

    def test_tasks_that_wait(self):
        wait = [("take", "q"), ("say", "x")]
        program = Program([("a", wait), ("b", wait), ("c", [("give", "q"), ("give", "q"), ("give", "q")])],
                          [("q", 0, 1)])
        look = [(0, None, [])]
        a_takes = ((1, 2), (), ((0, "takes", 0, 0, 0), (0, "runs", 0, 0, 0), (0, "ready", 0, 0, 0)), ((0, (0,)),))
        both = ((2,), (), ((0, "takes", 0, 0, 0), (0, "takes", 0, 0, 0), (0, "runs", 0, 0, 0)), ((0, (0, 1)),))
        woken = ((2,), (0,), ((1, "ready", 0, 0, 0), (0, "takes", 0, 0, 0), (1, "runs", 0, 0, 0)), ((0, (1,)),))
        all_woken = ((2,), (0, 1), ((1, "ready", 0, 0, 0), (1, "ready", 0, 0, 0), (2, "runs", 0, 0, 0)), ((0, ()),))
        given = ((2,), (0, 1), ((1, "ready", 0, 0, 0), (1, "ready", 0, 0, 0), (3, "runs", 0, 0, 0)), ((1, ()),))
        self.check(program, follow(program, look), [((0, "a", 0), 0, a_takes)])
        self.check(program, a_takes, [((0, "b", 0), 0, both)])
        self.check(program, both, [((0, "c", 0), 0, woken)])
        self.check(program, woken, [((0, "c", 1), 0, all_woken)])
        self.check(program, all_woken, [((0, "c", 2), 0, given)])

    def test_rest_with_a_task_that_takes(self):
        program = one([("take", "q")], [("q", 0, 1)], late=5)
        standing = follow(program, [(0, None, []), (0, "a", 0)])
        self.assertEqual(standing, ((), (), ((0, "takes", 0, 0, 0),), ((0, (0,)),)))
        self.check(program, standing, [])

    def test_the_order_of_waiting_is_that_of_coming(self):
        program = Program([("a", [("pass",), ("take", "q")]), ("b", [("take", "q")]), ("c", [("pass",)] * 2)],
                          [("q", 0, 1)])
        standing = follow(program, [(0, None, []), (0, "a", 0), (0, "b", 0), (0, "c", 0), (0, None, []), (0, "a", 1)])
        self.assertEqual(standing[3], ((0, (1, 0)),))


class WithinTest(StandingsTest):
    def test_the_deadline_comes_and_goes(self):
        program = one([("within", 7, [("work", 2, 2), ("say", "x")], [("say", "y")]), ("say", "z")])
        events = [(0, None, []), (0, "a", 0)]
        self.assertEqual(follow(program, events), ((0,), (), ((1, "runs", 0, 1, 7),), ()))
        events.append((2, "a", 1))
        self.assertEqual(follow(program, events), ((0,), (), ((2, "runs", 0, 1, 5),), ()))
        events.append((2, "a", 2))
        self.assertEqual(follow(program, events), ((0,), (), ((4, "runs", 0, 0, 0),), ()))

    def test_empty_lists(self):
        program = one([("within", 7, [], [("say", "y")]), ("within", 7, [("sleep", 8)], []), ("say", "z")])
        events = [(0, None, []), (0, "a", 0)]
        self.assertEqual(follow(program, events), ((0,), (), ((2, "runs", 0, 0, 0),), ()))
        events.extend([(0, "a", 2), (0, "a", 3)])
        self.assertEqual(follow(program, events), ((), (), ((3, "sleeps", 8, 1, 7),), ()))
        self.check(program, follow(program, events), [
            ((7, None, [("a", "within")]), 7, ((0,), (), ((4, "runs", 0, 0, 0),), ()))])

    def test_a_deadline_is_kept_among_the_first_rows(self):
        rows = [("within", 9, [("either", [("ever", [("sleep", 2)])], [])], []), ("say", "z")]
        program = one(rows)
        events = [(0, None, []), (0, "a", 0), (0, "a", (1, 0)), (0, "a", 2), (0, "a", 3), (2, None, [("a", "sleep")])]
        self.assertEqual(follow(program, events), ((0,), (), ((3, "runs", 0, 1, 7),), ()))
        self.assertEqual(follow(program, events[:2] + [(0, "a", (1, 1))]), ((0,), (), ((4, "runs", 0, 0, 0),), ()))

    def test_the_deadline_of_a_task_that_sleeps(self):
        program = one([("within", 3, [("sleep", 5)], [("say", "y")])])
        standing = follow(program, [(0, None, []), (0, "a", 0), (0, "a", 1)])
        self.check(program, standing, [
            ((3, None, [("a", "within")]), 3, ((0,), (), ((2, "runs", 0, 0, 0),), ()))])

    def test_the_deadline_of_a_task_that_takes(self):
        program = Program(
            [("a", [("within", 3, [("take", "q")], [("say", "y")])]), ("b", [("take", "q"), ("pass",)])], [("q", 0, 1)],
            late=1)
        standing = follow(program, [(0, None, []), (0, "a", 0), (0, "a", 1), (0, "b", 0)])
        self.assertEqual(standing, ((), (), ((1, "takes", 0, 1, 3), (0, "takes", 0, 0, 0)), ((0, (0, 1)),)))
        after = ((0,), (), ((2, "runs", 0, 0, 0), (0, "takes", 0, 0, 0)), ((0, (1,)),))
        self.check(program, standing, [
            ((3, None, [("a", "within")]), 3, after), ((4, None, [("a", "within")]), 4, after)])

    def test_giving_ends_the_wait_but_not_the_deadline(self):
        program = Program([("a", [("within", 3, [("take", "q"), ("pass",)], [])]),
                           ("b", [("within", 3, [("take", "q")], [])]),
                           ("c", [("work", 4, 4), ("give", "q"), ("give", "q")])], [("q", 0, 1)])
        standing = follow(program, [(0, None, []), (0, "a", 0), (0, "a", 1), (0, "b", 0), (0, "b", 1), (4, "c", 0),
                                    (4, "c", 1), (4, "c", 2)])
        self.assertEqual(standing, (
            (2,), (0, 1), ((2, "ready", 0, 1, -1), (2, "ready", 0, 0, 0), (3, "runs", 0, 0, 0)), ((0, ()),)))


class MissedTest(StandingsTest):
    def missed(self, row, start_value=0):
        """Return a program, and its standing in which `a` runs at the row 2 with a missed deadline."""
        program = Program([("a", [("within", 2, [("pass",), row, ("say", "x")], [("say", "y")]), ("say", "z")]),
                           ("b", [("work", 3, 3)])], [("q", start_value, 1)])
        standing = follow(program, [(0, None, []), (0, "a", 0), (0, "a", 1), (3, "b", 0), (3, "b", 1)])
        assert standing == ((), (0,), ((2, "ready", 0, 1, -1), (1, "ended", 0, 0, 0)), ((start_value, ()),))
        after = ((0,), (), ((2, "runs", 0, 2, 0), (1, "ended", 0, 0, 0)), ((start_value, ()),))
        self.check(program, standing, [((0, None, [("a", "within")]), 0, after)])
        return program, after

    def runs(self, place, missed, value=0):
        return ((0,), (), ((place, "runs", 0, missed, 0), (1, "ended", 0, 0, 0)), ((value, ()),))

    def test_waits_do_not_begin(self):
        for row in (("pass",), ("sleep", 1), ("take", "q")):
            program, standing = self.missed(row)
            self.check(program, standing, [((0, "a", 2), 0, self.runs(4, 0))])

    def test_all_else_goes_on(self):
        program, standing = self.missed(("take", "q"), 1)
        self.check(program, standing, [((0, "a", 2), 0, self.runs(3, 2))])
        program, standing = self.missed(("give", "q"))
        self.check(program, standing, [((0, "a", 2), 0, self.runs(3, 2, 1))])
        program, standing = self.missed(("work", 1, 2))
        self.check(program, standing, [((1, "a", 2), 1, self.runs(3, 2)), ((2, "a", 2), 2, self.runs(3, 2))])
        program, standing = self.missed(("say", "w"))
        self.check(program, standing, [((0, "a", 2), 0, self.runs(3, 2))])
        self.check(program, self.runs(3, 2), [((0, "a", 3), 0, self.runs(5, 0))])

    def test_empty_second_rows(self):
        program = Program([("a", [("ever", [("within", 1, [("pass",), ("pass",)], [])])]), ("b", [("work", 3, 3)])])
        standing = follow(program, [(0, None, []), (0, "a", 0), (0, "a", 1), (0, "a", 2), (3, "b", 0), (3, "b", 1),
                                    (3, None, [("a", "within")])])
        self.assertEqual(standing[2][0], (3, "runs", 0, 2, 0))
        after = ((0,), (), ((1, "runs", 0, 0, 0), (1, "ended", 0, 0, 0)), ())
        self.check(program, standing, [((0, "a", 3), 0, after)])
        again = ((0,), (), ((2, "runs", 0, 1, 1), (1, "ended", 0, 0, 0)), ())
        self.check(program, after, [((0, "a", 1), 0, again)])

    def test_a_deadline_that_is_past_but_not_missed_lets_a_wait_begin(self):
        program = one([("within", 1, [("work", 3, 3), ("sleep", 1)], [("say", "y")])])
        standing = follow(program, [(0, None, []), (0, "a", 0), (3, "a", 1), (3, "a", 2)])
        self.assertEqual(standing, ((), (), ((2, "sleeps", 1, 1, -2),), ()))
        self.check(program, standing, [
            ((0, None, [("a", "within")]), 0, ((0,), (), ((3, "runs", 0, 0, 0),), ()))])


class LooksTest(StandingsTest):
    def test_lateness(self):
        program = one([("sleep", 2), ("say", "x")], late=3)
        standing = follow(program, [(0, None, []), (0, "a", 0)])
        after = ((0,), (), ((1, "runs", 0, 0, 0),), ())
        self.check(program, standing, [((time, None, [("a", "sleep")]), time, after) for time in (2, 3, 4, 5)])

    def test_what_is_past_is_looked_at_at_once(self):
        program = Program([("a", [("sleep", 2)]), ("b", [("work", 1, 3), ("sleep", 9)])], late=2)
        events = [(0, None, []), (0, "a", 0)]
        for time in (1, 2, 3):
            standing = follow(program, [*events, (time, "b", 0), (time, "b", 1)])
            after = [((0,), (), ((1, "runs", 0, 0, 0), (1, "sleeps", 9 - wait, 0, 0)), ()) for wait in range(4)]
            waits = {1: (1, 2, 3), 2: (0, 1, 2), 3: (0,)}[time]
            self.check(program, standing, [((wait, None, [("a", "sleep")]), wait, after[wait]) for wait in waits])

    def test_no_lateness_if_a_task_is_ready(self):
        program = Program([("a", [("sleep", 2)]), ("b", [("pass",), ("work", 0, 3), ("pass",)])], late=9)
        standing = follow(program, [(0, None, []), (0, "a", 0), (0, "b", 0)])
        after = ((1,), (), ((0, "sleeps", 2, 0, 0), (1, "runs", 0, 0, 0)), ())
        self.check(program, standing, [((0, None, []), 0, after)])

    def test_what_is_due_at_the_moment_can_be_left_if_a_task_is_ready(self):
        program = Program([("a", [("sleep", 2)]), ("b", [("work", 1, 3), ("pass",)])], late=9)
        events = [(0, None, []), (0, "a", 0)]
        left = ((1,), (), ((0, "sleeps", 0, 0, 0), (2, "runs", 0, 0, 0)), ())
        taken = ((1, 0), (), ((1, "ready", 0, 0, 0), (2, "runs", 0, 0, 0)), ())
        early = ((1,), (), ((0, "sleeps", 1, 0, 0), (2, "runs", 0, 0, 0)), ())
        steps_taken = ((0, None, [("a", "sleep")]), 0, taken)
        self.check(program, follow(program, [*events, (1, "b", 0), (1, "b", 1)]), [((0, None, []), 0, early)])
        self.check(program, follow(program, [*events, (2, "b", 0), (2, "b", 1)]), [((0, None, []), 0, left),
                                                                               steps_taken])
        self.check(program, follow(program, [*events, (3, "b", 0), (3, "b", 1)]), [steps_taken])
        self.check(program, ((), (), ((0, "sleeps", 0, 0, 0), (2, "ended", 0, 0, 0)), ()), [
            ((time, None, [("a", "sleep")]), time, ((0,), (), ((1, "runs", 0, 0, 0), (2, "ended", 0, 0, 0)), ()))
            for time in range(10)])

    def test_several_sleeps_at_one_moment(self):
        program = Program([("a", [("sleep", 2)]), ("b", [("sleep", 2)]), ("c", [("sleep", 2)])])
        standing = follow(program, [(0, None, []), (0, "a", 0), (0, "b", 0), (0, "c", 0)])
        wanted = []
        for order in ([0], [1], [2], [0, 1], [1, 0], [0, 2], [2, 0], [1, 2], [2, 1], [0, 1, 2], [0, 2, 1], [1, 0, 2],
                      [1, 2, 0], [2, 0, 1], [2, 1, 0]):
            states = [(0, "sleeps", 0, 0, 0)] * 3
            for number in order:
                states[number] = (1, "runs" if number == order[0] else "ready", 0, 0, 0)
            taken = [("abc"[number], "sleep") for number in order]
            wanted.append(((2, None, taken), 2, (tuple(order), (), tuple(states), ())))
        self.check(program, standing, wanted)

    def test_the_earlier_ones_come_first_and_must_be_taken(self):
        program = Program([("a", [("sleep", 3)]), ("b", [("sleep", 2)]), ("c", [("sleep", 4)])], late=2)
        standing = follow(program, [(0, None, []), (0, "a", 0), (0, "b", 0), (0, "c", 0)])

        def state(number, order, rest):
            if number not in order:
                return (0, "sleeps", rest, 0, 0)
            return (1, "runs" if order[0] == number else "ready", 0, 0, 0)

        wanted = []
        for time, order in ((2, (1,)), (3, (1,)), (3, (1, 0)), (4, (1, 0)), (4, (1, 0, 2))):
            states = (state(0, order, 3 - time), state(1, order, 0), state(2, order, 4 - time))
            taken = [("abc"[number], "sleep") for number in order]
            wanted.append(((time, None, taken), time, (order, (), states, ())))
        self.check(program, standing, wanted)

    def test_sleep_and_deadline_at_one_moment(self):
        program = one([("within", 2, [("sleep", 2), ("say", "x")], [("say", "y")])])
        standing = follow(program, [(0, None, []), (0, "a", 0), (0, "a", 1)])

        def runs(place, missed, left):
            return ((0,), (), ((place, "runs", 0, missed, left),), ())

        self.check(program, standing, [
            ((2, None, [("a", "sleep")]), 2, runs(2, 1, 0)),
            ((2, None, [("a", "sleep"), ("a", "within")]), 2, runs(2, 2, 0)),
            ((2, None, [("a", "within")]), 2, runs(3, 0, 0)),
        ])
        late = program.with_late(1)
        self.check(late, standing, [
            ((2, None, [("a", "sleep")]), 2, runs(2, 1, 0)),
            ((2, None, [("a", "sleep"), ("a", "within")]), 2, runs(2, 2, 0)),
            ((2, None, [("a", "within")]), 2, runs(3, 0, 0)),
            ((3, None, [("a", "sleep"), ("a", "within")]), 3, runs(2, 2, 0)),
            ((3, None, [("a", "within")]), 3, runs(3, 0, 0)),
        ])

    def test_a_deadline_behind_the_sleep(self):
        program = one([("within", 3, [("sleep", 2), ("say", "x")], [("say", "y")])], late=2)
        standing = follow(program, [(0, None, []), (0, "a", 0), (0, "a", 1)])

        def runs(place, missed, left):
            return ((0,), (), ((place, "runs", 0, missed, left),), ())

        both = [("a", "sleep"), ("a", "within")]
        self.check(program, standing, [
            ((2, None, both[:1]), 2, runs(2, 1, 1)),
            ((3, None, both[:1]), 3, runs(2, 1, 0)),
            ((3, None, both), 3, runs(2, 2, 0)),
            ((4, None, both), 4, runs(2, 2, 0)),
        ])

    def test_a_sleep_that_a_deadline_ends_is_not_taken(self):
        program = one([("within", 1, [("sleep", 2)], [("say", "y")])], late=3)
        standing = follow(program, [(0, None, []), (0, "a", 0), (0, "a", 1)])
        after = ((0,), (), ((2, "runs", 0, 0, 0),), ())
        self.check(program, standing, [((time, None, [("a", "within")]), time, after) for time in (1, 2, 3, 4)])

    def test_the_end_of_a_sleep_can_end_the_deadline(self):
        program = one([("within", 3, [("sleep", 2)], [("say", "y")]), ("say", "z")], late=2)
        standing = follow(program, [(0, None, []), (0, "a", 0), (0, "a", 1)])
        after = ((0,), (), ((3, "runs", 0, 0, 0),), ())
        self.check(program, standing, [((time, None, [("a", "sleep")]), time, after) for time in (2, 3, 4)])

    def test_ready_tasks_stand_ahead_of_those_that_are_taken(self):
        program = Program([("a", [("sleep", 1)]), ("b", [("work", 2, 2), ("pass",)])])
        events = [(0, None, []), (0, "a", 0), (2, "b", 0), (2, "b", 1), (2, None, [("a", "sleep")])]
        self.assertEqual(follow(program, events)[0], (1, 0))


class ReachedTest(unittest.TestCase):
    def programs(self):
        lock = [("take", "lock"), ("say", "in"), ("pass",), ("work", 0, 1), ("say", "out"), ("give", "lock")]
        waiter = [("ever", [("within", 2, [("take", "q"), ("sleep", 2)], [("say", "late")]), ("give", "q"), ("pass",)])]
        yield Program([("a", lock), ("b", lock)], [("lock", 1, 1)])
        yield Program([("a", waiter), ("b", [("ever", [("take", "q"), ("work", 1, 2), ("give", "q"), ("sleep", 3)])])],
                      [("q", 1, 1)], late=1)
        yield Program([("a", [("ever", [("pass",)])]), ("b", [("ever", [("work", 0, 2), ("sleep", 1)])])])

    def test_standings_are_as_described(self):
        for program in self.programs():
            standings = reached(program)
            self.assertLess(len(standings), 3000)
            for standing in standings:
                self.check(program, standing)

    def check(self, program, standing):
        turn, ready, states, counters = standing
        self.assertEqual((type(turn), type(ready), type(states), type(counters)), (tuple,) * 4)
        self.assertEqual(len(set(turn + ready)), len(turn + ready))
        for number, (place, word, rest, missed, left) in enumerate(states):
            self.assertEqual(word == "runs", turn[:1] == (number,))
            self.assertEqual(word == "ready", number in turn[1:] + ready)
            self.assertEqual(word == "takes", any(number in queue for _, queue in counters))
            self.assertTrue(word == "sleeps" or rest == 0)
            self.assertTrue(missed == 1 or left == 0)
            self.assertEqual({type(place), type(rest), type(missed), type(left)}, {int})
        found = steps(program, standing)
        self.assertEqual(len(set(map(repr, found))), len(found))
        for event, time, _ in found:
            self.assertEqual(event[0], time)
            self.assertEqual((type(event), type(event[0]), type(time)), (tuple, int, int))
            self.assertEqual(event[1] is None, turn == ())


if __name__ == "__main__":
    unittest.main()
