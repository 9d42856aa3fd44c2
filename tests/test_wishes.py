"""Points 26 to 29: wishes."""

import random
import unittest
from fractions import Fraction

from model import World
from samples import BEAT, FREE, LOCKED, any_objects, as_lists, as_tuples, fraction, random_run, shown, talking_program
from test_model import random_program

from looptimes.errors import BadPlace, BadRun, BadWish, UnknownTask
from looptimes.programs import Program
from looptimes.runs import Run
from looptimes.spans import Span
from looptimes.standings import start, steps
from looptimes.wishes import is_broken, is_closed, judge, latest, slowest

WRONG_WISHES = [
    (), ("never",), ("never", "x", "y"), ("never", ""), ("never", "X"), ("never", "abcdefghi"), ("never", None),
    ("never", ["x"]), ("never", 1), ("ever", "x"), ("first", "x"), ("first", "x", "x"), ("first", "x", "y", "z"),
    ("between", "x", "y"), ("between", "x", "x", "y"), ("between", "x", "y", "z", "z"), ("between", "x", "y", 1),
    ("soon", "x", "y"), ("soon", "x", "y", -1), ("soon", "x", "y", 10000), ("soon", "x", "y", True),
    ("soon", "x", "y", Span(5)), ("soon", "x", "y", "5"), ("soon", "x", 5, "y"), ("soon", 5, "x", "y"),
    ("soon", "x", "y", 5, 5), ("late", "x", "y"), ("late", "x", "y", -1), ("late", "x", "y", 10000),
    ("late", "x", "y", False), ("late", "x y", "y", 1), ("free", "x"), ("free", 0), "free", "never", ["Free"],
    (("free",),), ({"free": 1},), {"free": 1}, (None,), (0,), ("soon", "x", "y", None), ("late", "x", "y", [1]),
    ("", "x"), ("late", "x", {}, 5),
]
GOOD_WISHES = [
    ("never", "x"), ("never", "abcdefgh"), ("first", "x", "y"), ("between", "x", "y", "z"), ("between", "x", "y", "x"),
    ("between", "x", "y", "y"), ("soon", "x", "y", 0), ("soon", "x", "x", 9999), ("late", "x", "y", 0),
    ("late", "x", "x", 9999), ("free",),
]


def is_wrong_wish(thing):
    return all(shown(thing, 5) not in (shown(wish), shown(list(wish))) for wish in GOOD_WISHES)


def breaks(wish, log, at):
    """Tell from the words of the document whether the event with this index breaks the wish.

    The log is the list of the pairs (moment, word or None) of all events.
    """
    kind, *parts = wish
    moment, word = log[at]
    ahead = log[:at]
    if kind == "never":
        return word == parts[0]
    if kind == "first":
        return word == parts[1] and parts[0] not in [said for _, said in ahead]
    if kind == "free":
        return False
    earlier = [index for index in range(at) if log[index][1] == parts[0]]
    if kind == "between":
        return word == parts[2] and bool(earlier) and parts[1] not in [said for _, said in ahead[earlier[-1] + 1:]]
    if kind == "soon":
        return any(moment > log[index][0] + parts[2] and parts[1] not in [said for _, said in ahead[index + 1:]]
                   for index in earlier)
    return word == parts[1] and bool(earlier) and moment - log[earlier[-1]][0] < parts[2]


def mark(wish, log):
    """Return the mark behind a run that does not break the wish, from the words of the document."""
    kind, *parts = wish
    words = [said for _, said in log]
    now = log[-1][0] if log else 0
    if kind in ("never", "free"):
        return 0
    if kind == "first":
        return int(parts[0] in words)
    earlier = [index for index, word in enumerate(words) if word == parts[0]]
    if kind == "between":
        return int(bool(earlier) and parts[1] not in words[earlier[-1] + 1:])
    if kind == "soon":
        unanswered = [index for index in earlier if parts[1] not in words[index + 1:]]
        return log[unanswered[0]][0] + parts[2] - now if unanswered else -1
    return max(0, log[earlier[-1]][0] + parts[2] - now) if earlier else 0


def is_stuck(world):
    return not world.turn and not world.look_spans() and any(task.word == "takes" for task in world.tasks)


def searched(program, wish, most):
    """Return (length of a shortest run that breaks the wish, None), or (None, the pairs), or None if it is too long."""
    level = [(World(program), [])]
    found = {(level[0][0].standing(), mark(wish, []))}
    length = 0
    while level:
        following = []
        for world, log in level:
            if wish[0] == "free" and is_stuck(world):
                return length, None
        for world, log in level:
            for event, after in world.followers():
                longer = log + [(event[0], world.word())]
                if breaks(wish, longer, len(longer) - 1):
                    return length + 1, None
                pair = (after.standing(), mark(wish, longer))
                if pair not in found:
                    found.add(pair)
                    following.append((after, longer))
        if len(found) > most:
            return None
        level = following
        length += 1
    return None, found


def random_wish(dice):
    one, two, three = (dice.choice("xyz") for _ in range(3))
    other = dice.choice([letter for letter in "xyz" if letter != one])
    return dice.choice([
        ("never", one), ("first", one, other), ("between", one, other, three), ("soon", one, two, dice.randint(0, 8)),
        ("late", one, two, dice.randint(0, 6)), ("free",)])


class WishesTest(unittest.TestCase):
    def holds(self, program, wish, many=None):
        answer = judge(program, wish)
        self.assertIsInstance(answer, tuple)
        self.assertEqual((len(answer), answer[0]), (2, "holds"), (program.text(), wish, answer))
        self.assertIsInstance(answer[1], list)
        self.assertTrue(is_closed(program, wish, answer[1]))
        if many is not None:
            self.assertEqual(len(answer[1]), many)
        return answer[1]

    def broken(self, program, wish, many=None):
        """Check the answer that a wish can be broken; return the run."""
        answer = judge(program, wish)
        self.assertIsInstance(answer, tuple)
        self.assertEqual((len(answer), answer[0]), (2, "broken"), (program.text(), wish, answer))
        run = Run(program, answer[1])
        self.assertEqual(shown(run.events()), shown(answer[1]))
        self.assertTrue(all(isinstance(event[0], int) for event in run.events()))
        self.assertTrue(is_broken(wish, run))
        if len(run) > 0:
            self.assertFalse(is_broken(wish, Run(program, answer[1][:-1])))
        if many is not None:
            self.assertEqual(len(run), many, answer)
        self.assertFalse(is_closed(program, wish, []))
        return run


class JudgeTest(WishesTest):
    def test_never(self):
        self.holds(BEAT, ("never", "y"), 6)
        self.assertEqual(self.broken(BEAT, ("never", "x")).log()[-1][1], "x")
        self.broken(BEAT, ("never", "x"), 4)

    def test_first(self):
        program = Program([("a", [("either", [("say", "x")], [("work", 0, 2), ("say", "y")]), ("say", "z")])])
        self.broken(program, ("first", "x", "y"), 4)
        self.broken(program, ("first", "x", "z"), 5)
        self.broken(program, ("first", "z", "x"), 3)
        self.holds(program, ("first", "x", "w"))
        self.holds(Program([("a", [("say", "x"), ("say", "y"), ("say", "y")])]), ("first", "x", "y"), 6)

    def test_between(self):
        program = Program([("a", [("say", word) for word in "xyzxzyx"])])
        self.broken(program, ("between", "x", "y", "z"), 6)
        self.broken(program, ("between", "x", "w", "z"), 4)
        self.broken(program, ("between", "x", "w", "x"), 5)
        self.broken(program, ("between", "x", "y", "y"), 3)
        self.broken(program, ("between", "z", "y", "z"), 6)
        self.broken(program, ("between", "z", "x", "x"), 5)
        self.holds(program, ("between", "w", "x", "z"))
        self.holds(program, ("between", "x", "y", "x"))
        self.holds(program, ("between", "y", "x", "y"))
        pairs = self.holds(program, ("between", "x", "y", "w"), 10)
        self.assertEqual([mark for _, mark in pairs], [0, 0, 1, 0, 0, 1, 1, 0, 1, 1])

    def test_soon(self):
        program = Program([("a", [("say", "x"), ("work", 1, 3), ("say", "y"), ("work", 2, 2), ("say", "y")])])
        self.broken(program, ("soon", "x", "y", 2), 3)
        # An event that says b is too late, too; what comes behind it does not count.
        self.assertEqual(self.broken(program, ("soon", "x", "y", 0), 3).now(), 1)
        pairs = self.holds(program, ("soon", "x", "y", 3))
        self.assertEqual([mark for _, mark in pairs if mark != -1], [3, 2, 1, 0])
        self.broken(program, ("soon", "x", "z", 4), 5)
        self.holds(program, ("soon", "x", "z", 5))
        self.holds(program, ("soon", "y", "x", 2))
        self.broken(program, ("soon", "y", "x", 1), 5)
        self.holds(program, ("soon", "w", "y", 0))
        # The second y answers the first one.
        self.holds(program, ("soon", "y", "y", 2))
        self.broken(program, ("soon", "y", "y", 1), 5)

    def test_soon_counts_from_the_earliest_unanswered(self):
        rows = [("say", "x"), ("work", 2, 2), ("say", "x"), ("work", 2, 2), ("say", "y"), ("say", "x"), ("work", 3, 3)]
        program = Program([("a", rows)])
        self.holds(program, ("soon", "x", "y", 4))
        self.broken(program, ("soon", "x", "y", 3), 5)
        self.broken(program, ("soon", "x", "x", 2), 8)

    def test_late(self):
        program = Program([("a", [("say", "x"), ("work", 1, 3), ("say", "y"), ("work", 2, 2), ("say", "y")])])
        self.assertEqual(self.broken(program, ("late", "x", "y", 2), 4).now(), 1)
        pairs = self.holds(program, ("late", "x", "y", 1))
        self.assertEqual([mark for _, mark in pairs if mark != 0], [1])
        self.holds(program, ("late", "y", "y", 2))
        self.broken(program, ("late", "y", "y", 3), 6)
        self.holds(program, ("late", "y", "x", 9999))
        self.holds(program, ("late", "x", "y", 0))
        again = Program([("a", [("say", "x"), ("work", 5, 5), ("say", "x"), ("work", 1, 1), ("say", "y")])])
        self.broken(again, ("late", "x", "y", 2), 6)
        self.holds(again, ("late", "x", "y", 1))

    def test_free(self):
        stuck = Program([("a", [("take", "q"), ("say", "x")]), ("b", [("either", [("give", "q")], [])])], [("q", 0, 1)])
        run = self.broken(stuck, ("free",), 4)
        self.assertEqual(steps(stuck, run.standing()), [])
        self.holds(Program([("a", [("take", "q")]), ("b", [("give", "q")])], [("q", 0, 1)]), ("free",))
        self.holds(Program([("a", [])]), ("free",), 3)
        # Some other task goes on, or a deadline comes: that is no rest.
        self.holds(Program([("a", [("take", "q")]), ("b", [("ever", [("pass",)])])], [("q", 0, 1)]), ("free",))
        self.holds(Program([("a", [("within", 3, [("take", "q")], [])])], [("q", 0, 1)]), ("free",))
        self.broken(Program([("a", [("take", "q")])], [("q", 0, 1)]), ("free",), 2)

    def test_pairs(self):
        pairs = self.holds(BEAT, ("soon", "x", "x", 6), 11)
        self.assertIn((start(BEAT), -1), pairs)
        self.assertEqual(len({pair for pair in pairs}), len(pairs))
        for pair in pairs:
            self.assertIsInstance(pair, tuple)
            self.assertIsInstance(pair[0], tuple)
            self.assertIsInstance(pair[1], int)
        for wish, first in ((("never", "y"), 0), (("free",), 0), (("first", "y", "z"), 0),
                            (("between", "y", "z", "y"), 0), (("soon", "y", "y", 5), -1), (("late", "y", "y", 5), 0)):
            self.assertEqual(self.holds(BEAT, wish), [(standing, first) for standing, _ in self.holds(BEAT, ("free",))])

    def test_wishes_as_lists_and_equal_answers(self):
        for wish in GOOD_WISHES:
            for program in (BEAT, LOCKED, FREE):
                answer = shown(judge(program, wish))
                self.assertEqual(shown(judge(program=program, wish=list(wish))), answer)
                copy = Program([(name, as_lists(program[name])) for name in program.names()],
                               as_lists(program.counters()), late=program.late)
                self.assertEqual(shown(judge(copy, wish)), answer)

    def test_answers_are_new_and_wishes_are_not_changed(self):
        wish = ["soon", "x", "x", 5]
        first = judge(BEAT, wish)
        wanted = shown(first)
        for event in first[1]:
            if event[1] is None:
                event[2].append("spoilt")
        first[1].pop()
        self.assertEqual(shown(judge(BEAT, wish)), wanted)
        self.assertEqual(wish, ["soon", "x", "x", 5])
        judge(BEAT, ("free",))[1].clear()
        self.holds(BEAT, ("free",), 6)

    def test_random_programs(self):
        counts = {}
        for seed in range(500):
            dice = random.Random(seed)
            program = dice.choice([random_program, talking_program])(dice)
            wish = random_wish(dice)
            found = searched(program, wish, 250)
            if found is None:
                continue
            length, pairs = found
            counts[wish[0], length is None] = counts.get((wish[0], length is None), 0) + 1
            if length is None:
                got = self.holds(program, wish, len(pairs))
                self.assertEqual(set(got), pairs, (program.text(), wish))
            else:
                self.broken(program, wish, length)
        self.assertEqual(len(counts), 12, counts)
        self.assertGreater(min(counts.values()), 2, counts)


class RefusalsTest(WishesTest):
    def test_bad_wishes(self):
        run = Run(BEAT)
        for wish in WRONG_WISHES + [thing for thing in any_objects() if is_wrong_wish(thing)]:
            for call in (lambda: judge(BEAT, wish),
                         lambda: is_closed(BEAT, wish, []), lambda: is_closed(BEAT, wish, None),
                         lambda: is_broken(wish, run), lambda: is_broken(wish, None), lambda: latest(BEAT, wish),
                         lambda: slowest(BEAT, "a", 1, wish)):
                self.assertRaises(BadWish, call)
        for wish in GOOD_WISHES:
            for good in (wish, list(wish)):
                judge(BEAT, good)
                is_closed(BEAT, good, [])
                is_broken(good, run)
                slowest(BEAT, "a", 1, good)
                latest(BEAT, good)

    def test_bad_runs(self):
        for thing in any_objects():
            if not isinstance(thing, Run):
                self.assertRaises(BadRun, is_broken, ("free",), thing)

    def test_bad_names_and_places(self):
        program = Program([("a", [("ever", [("work", 1, 2), ("sleep", 3)])]), ("b", [("work", 0, 0)])])
        for thing in any_objects():
            if thing != "a" and thing != "b":
                with self.assertRaises(UnknownTask) as caught:
                    slowest(program, thing, None, None)
                self.assertIs(caught.exception.name, thing)
            if shown(thing, 4) != "1":
                with self.assertRaises(BadPlace) as caught:
                    slowest(program, "a", thing, None)
                self.assertIs(caught.exception.place, thing)
        for name, place in (("a", 0), ("a", 2), ("a", 3), ("a", -1), ("b", 1), ("b", False), ("b", Span(0))):
            with self.assertRaises(BadPlace) as caught:
                slowest(program, name, place, ("free",))
            self.assertIs(caught.exception.place, place)
        self.assertRaises(BadWish, slowest, program, "a", 1, ("frei",))
        self.assertEqual(slowest(program=program, name="b", place=0, wish=("free",)), 20)


class ClosedTest(WishesTest):
    def test_pairs_that_are_changed(self):
        wish = ("soon", "x", "x", 6)
        pairs = self.holds(BEAT, wish)
        for other in (as_lists(pairs), as_tuples(pairs), pairs[::-1], pairs + pairs, pairs + any_objects(),
                      any_objects() + pairs, [(0, 0)] + pairs + [(pairs[0][0], 17), (pairs[0][0], None)]):
            self.assertIs(is_closed(BEAT, wish, other), True)
        for at, (standing, mark) in enumerate(pairs):
            rest = pairs[:at] + pairs[at + 1:]
            self.assertIs(is_closed(BEAT, wish, rest), False)
            for item in ((standing, mark + 7), (standing, Span(mark)), (standing, str(mark)), (standing,), standing,
                         (standing, mark, mark), (mark, standing), {standing: mark}, [standing, [mark]],
                         ((standing,), mark), (standing + ((),), mark), (standing[:3], mark)):
                self.assertIs(is_closed(BEAT, wish, rest + [item]), False)
            if mark in (0, 1):
                self.assertIs(is_closed(BEAT, wish, rest + [(standing, bool(mark))]), False)

    def test_standings_that_are_changed(self):
        wish = ("between", "in", "out", "in")
        pairs = self.holds(LOCKED, wish)
        for at in range(0, len(pairs), 3):
            rest = pairs[:at] + pairs[at + 1:]
            for changed in changes(pairs[at]):
                self.assertIs(is_closed(LOCKED, wish, rest + [changed]), False, changed)

    def test_no_lists(self):
        for thing in any_objects():
            self.assertIs(is_closed(BEAT, ("free",), thing), False)
        pairs = self.holds(BEAT, ("free",))
        self.assertIs(is_closed(BEAT, ("free",), dict(pairs)), False)
        self.assertIs(is_closed(program=BEAT, wish=("free",), pairs=pairs), True)

    def test_broken_wishes(self):
        every = self.holds(BEAT, ("never", "y"))
        self.assertIs(is_closed(BEAT, ("never", "x"), every), False)
        self.assertIs(is_closed(FREE, ("between", "in", "out", "in"), []), False)
        marked = [(standing, mark) for standing, _ in every for mark in range(-1, 7)]
        self.assertIs(is_closed(BEAT, ("soon", "x", "x", 6), marked), True)
        self.assertIs(is_closed(BEAT, ("soon", "x", "x", 5), marked), False)

    def test_what_is_passed_is_not_changed(self):
        pairs = as_lists(self.holds(BEAT, ("soon", "x", "x", 6)))
        kept = as_lists(pairs)
        is_closed(BEAT, ("soon", "x", "x", 6), pairs)
        self.assertEqual(pairs, kept)


def changes(thing):
    """Return copies of a nested tuple, each with one integer or string replaced by something unlike it."""
    if isinstance(thing, int):
        return [thing + 1, Span(thing), str(thing), None, (thing,)] + ([bool(thing)] if thing in (0, 1) else [])
    if isinstance(thing, str):
        return [thing + "x", [thing], None, 0]
    out = []
    for at, item in enumerate(thing):
        out.extend(thing[:at] + (other,) + thing[at + 1:] for other in changes(item))
    return out + [thing + (0,), {}, None]


class BrokenTest(WishesTest):
    def test_fractions(self):
        program = Program([("a", [("say", "x"), ("work", 1, 2), ("say", "y")])])
        for moment in (1, Span(5, 4), Span(3, 2), 2):
            events = [(0, None, []), (0, "a", 0), (moment, "a", 1), (moment, "a", 2)]
            for many in range(5):
                run = Run(program, events[:many])
                self.assertIs(is_broken(("late", "x", "y", 2), run), many == 4 and moment < 2)
                self.assertIs(is_broken(("late", "x", "y", 1), run), False)
                self.assertIs(is_broken(["soon", "x", "y", 1], run), many >= 3 and moment > 1)
                self.assertIs(is_broken(("soon", "x", "y", 2), run), False)
                self.assertIs(is_broken(wish=("never", "y"), run=run), many == 4)

    def test_rest(self):
        program = Program([("a", [("within", 2, [("sleep", 3)], []), ("take", "q")])], [("q", 0, 1)], late=1)
        events = [(0, None, []), (0, "a", 0), (0, "a", 1), (Span(5, 2), None, [("a", "within")]), (Span(5, 2), "a", 2)]
        for many in range(6):
            self.assertIs(is_broken(("free",), Run(program, events[:many])), many == 5)

    def test_an_event_ahead_of_the_last_one(self):
        program = Program([("a", [("say", "x"), ("say", "y"), ("pass",)])])
        events = [(0, None, []), (0, "a", 0), (0, "a", 1), (0, "a", 2), (0, None, [])]
        for many in range(6):
            self.assertIs(is_broken(("never", "x"), Run(program, events[:many])), many >= 2)
            self.assertIs(is_broken(("first", "y", "x"), Run(program, events[:many])), many >= 2)

    def test_any_number_of_standings(self):
        program = Program([(name, [("ever", [("work", 0, 99), ("sleep", 99)])]) for name in "abc"], late=99)
        run = Run(program, [(0, None, []), (0, "a", 0), (Span(197, 2), "a", 1)])
        for wish in GOOD_WISHES:
            self.assertIs(is_broken(wish, run), False)

    def test_random_runs(self):
        counts = {}
        for seed in range(900):
            dice = random.Random(seed)
            program = dice.choice([random_program, talking_program])(dice)
            wish = random_wish(dice)
            events, worlds = random_run(dice, program, 25)
            log = [(Fraction(fraction(event[0])), world.word()) for event, world in zip(events, worlds)]
            for many in range(len(events) + 1):
                wanted = any(breaks(wish, log[:many], at) for at in range(many))
                wanted = wanted or (wish[0] == "free" and is_stuck(worlds[many]))
                got = is_broken(wish, Run(program, events[:many]))
                self.assertIs(got, wanted, (program.text(), wish, events[:many]))
            counts[wish[0], wanted] = counts.get((wish[0], wanted), 0) + 1
        self.assertEqual(len(counts), 12, counts)
        self.assertGreater(min(counts.values()), 5, counts)


class SlowestTest(WishesTest):
    def test_slowest(self):
        self.assertEqual(slowest(BEAT, "a", 1, ("soon", "x", "x", 6)), 2)
        self.assertEqual(slowest(BEAT, "a", 1, ("soon", "x", "x", 9)), 5)
        self.assertEqual(slowest(BEAT, "a", 1, ("soon", "x", "x", 5)), 1)
        self.assertIsNone(slowest(BEAT, "a", 1, ("soon", "x", "x", 4)))
        self.assertEqual(slowest(BEAT, "a", 1, ("late", "x", "x", 4)), 21)
        self.assertIsNone(slowest(BEAT, "a", 1, ("late", "x", "x", 5)))
        self.assertEqual(slowest(Program([("a", [("work", 90, 90)])]), "a", 0, ("free",)), 99)
        self.assertEqual(slowest(Program([("a", [("work", 79, 80)])]), "a", 0, ("free",)), 99)
        self.assertEqual(slowest(Program([("a", [("work", 78, 99)])]), "a", 0, ("free",)), 98)
        self.assertEqual(slowest(Program([("a", [("work", 99, 99)])]), "a", 0, ("free",)), 99)

    def test_slowest_is_that_of_the_named_row(self):
        rows = [("say", "x"), ("either", [("work", 1, 9)], [("work", 2, 2)]), ("say", "y")]
        program = Program([("a", [("pass",)]), ("b", rows)])
        self.assertIsNone(slowest(program, "b", 2, ("soon", "x", "y", 0)))
        self.assertEqual(slowest(program, "b", 2, ("soon", "x", "y", 7)), 7)
        self.assertIsNone(slowest(program, "b", 3, ("soon", "x", "y", 7)))
        self.assertEqual(slowest(program, "b", 3, ("soon", "x", "y", 9)), 9)

    def test_latest(self):
        self.assertEqual(latest(BEAT, ("soon", "x", "x", 6)), 1)
        self.assertEqual(latest(BEAT, ("soon", "x", "x", 5)), 0)
        self.assertIsNone(latest(BEAT, ("soon", "x", "x", 4)))
        self.assertEqual(latest(BEAT, ("soon", "x", "x", 24)), 19)
        self.assertEqual(latest(BEAT, ("soon", "x", "x", 25)), 20)
        self.assertEqual(latest(BEAT, ("soon", "x", "x", 30)), 20)
        self.assertEqual(latest(program=BEAT.with_late(99), wish=["free"]), 20)

    def test_random_programs(self):
        answers = {}
        for seed in range(200):
            dice = random.Random(seed)
            program = talking_program(dice)
            wish = dice.choice([random_wish(dice), ("soon", *dice.choices("xyz", k=2), dice.randint(2, 20))])
            works = [(name, place) for name in program.names() for place in range(12) if row_kind(program, name, place)]
            if not works or searched(program.with_late(3), wish, 60) is None:
                continue
            name, place = dice.choice(works)
            low = program.row(name, place)[1]
            made = [(high, program.with_row(name, place, ("work", low, high))) for high in range(low, low + 21)]
            self.check(slowest(program, name, place, wish), made, wish, answers)
            self.check(latest(program, wish), [(late, program.with_late(late)) for late in range(21)], wish, answers)
        self.assertGreater(min(answers.get(kind, 0) for kind in ("none", "all", "some")), 5, answers)

    def check(self, got, made, wish, answers):
        """Compare with the judgement of each program; made are the pairs (number, program)."""
        safe = [number for number, program in made if judge(program, wish)[0] == "holds"]
        self.assertEqual(safe, [number for number, _ in made][:len(safe)])
        self.assertEqual(got, safe[-1] if safe else None)
        kind = "all" if len(safe) == len(made) else "some" if safe else "none"
        answers[kind] = answers.get(kind, 0) + 1


def row_kind(program, name, place):
    try:
        return program.row(name, place)[0] == "work"
    except BadPlace:
        return False


if __name__ == "__main__":
    unittest.main()
