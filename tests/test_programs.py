"""Points 10 to 14: programs, and point 3 for them."""

import unittest

from looptimes.errors import BadLate, BadPart, BadPlace, BadRow, UnknownTask
from looptimes.programs import Program
from looptimes.spans import Span

ROWS = [
    ("say", "x"),
    ("within", 4, [("sleep", 2), ("either", [("take", "q")], [])], [("give", "q")]),
    ("work", 1, 3),
    ("ever", [("pass",)]),
]
FLAT = [ROWS[0], ROWS[1], ROWS[1][2][0], ROWS[1][2][1], ROWS[1][2][1][1][0], ROWS[1][3][0], ROWS[2], ROWS[3],
        ROWS[3][1][0]]
COUNTERS = [("q", 1, 2), ("r", 0, 9)]
NO_NAMES = [None, True, 0, "", "c", "A", ["a"], ("a",), {}, {"a": 1}, Span(1)]


def program():
    """Return the program of these tests."""
    return Program([("a", ROWS), ("b", [])], COUNTERS, late=5)


def as_lists(thing):
    """Return a copy in which lists stand for tuples."""
    return [as_lists(item) for item in thing] if isinstance(thing, (list, tuple)) else thing


def as_tuples(thing):
    """Return a copy in which tuples stand for lists."""
    return tuple(as_tuples(item) for item in thing) if isinstance(thing, (list, tuple)) else thing


def spoil(thing):
    """Change all lists in a thing."""
    if isinstance(thing, (list, tuple)):
        for item in thing:
            spoil(item)
    if isinstance(thing, list):
        thing.append("spoilt")


class ReadingTest(unittest.TestCase):
    def test_names_counters_late(self):
        self.assertEqual(program().names(), ["a", "b"])
        self.assertEqual(program().counters(), COUNTERS)
        self.assertEqual({type(item) for item in program().counters()}, {tuple})
        self.assertEqual(program().late, 5)
        plain = Program([("a", [])])
        self.assertEqual((plain.names(), plain.counters(), plain.late), (["a"], [], 0))

    def test_rows_of_a_task(self):
        self.assertEqual(repr(program()["a"]), repr(ROWS))
        self.assertEqual(program()["b"], [])

    def test_lists_and_tuples_mean_the_same(self):
        tasks = [("a", ROWS), ("b", [])]
        for change in (as_lists, as_tuples):
            other = Program(change(tasks), change(COUNTERS), late=5)
            self.assertEqual(other, program())
            self.assertEqual(repr(other["a"]), repr(ROWS))
            self.assertEqual(repr(other.counters()), repr(COUNTERS))
            self.assertEqual(repr(other.row("a", 1)), repr(ROWS[1]))

    def test_unknown_tasks(self):
        for thing in [*NO_NAMES, program()]:
            with self.assertRaises(UnknownTask) as caught:
                program()[thing]
            self.assertIs(caught.exception.name, thing)

    def test_in(self):
        self.assertIs("a" in program(), True)
        self.assertIs("b" in program(), True)
        for thing in [*NO_NAMES, "q", program()]:
            self.assertIs(thing in program(), False)

    def test_len(self):
        self.assertEqual(len(program()), 2)
        self.assertEqual(len(Program([("a", []), ("b", []), ("c", [])])), 3)

    def test_by_name(self):
        named = Program(tasks=[("a", ROWS), ("b", [])], counters=COUNTERS, late=5)
        self.assertEqual(named, program())
        self.assertEqual(named.row(name="a", place=0), ("say", "x"))
        self.assertEqual(named.slower(k=1), named)
        self.assertEqual(named.with_late(late=5), named)
        self.assertEqual(named.with_row(name="a", place=0, row=("say", "x")), named)

    def test_returned_lists_are_new(self):
        made = program()
        for _ in range(2):
            self.assertEqual((made.names(), made.counters()), (["a", "b"], COUNTERS))
            self.assertEqual(made["a"], ROWS)
            self.assertEqual([made.row("a", place) for place in range(9)], FLAT)
            spoil(made.names())
            spoil(made.counters())
            spoil(made["a"])
            for place in range(9):
                spoil(made.row("a", place))

    def test_later_changes_have_no_effect(self):
        tasks, counters = as_lists([("a", ROWS), ("b", [])]), as_lists(COUNTERS)
        made = Program(tasks, counters, late=5)
        self.assertEqual((tasks, counters), (as_lists([("a", ROWS), ("b", [])]), as_lists(COUNTERS)))
        row = ["either", [["pass"]], []]
        changed = made.with_row("a", 0, row)
        self.assertEqual(row, ["either", [["pass"]], []])
        spoil(row)
        spoil(tasks)
        spoil(counters)
        self.assertEqual(made, program())
        self.assertEqual(made["a"], ROWS)
        self.assertEqual(changed.row("a", 0), ("either", [("pass",)], []))


class EqualityTest(unittest.TestCase):
    def test_equal(self):
        self.assertIs(program() == program(), True)
        self.assertIs(program() != program(), False)

    def test_unequal(self):
        others = [
            Program([("b", []), ("a", ROWS)], COUNTERS, late=5),
            Program([("a", ROWS), ("b", [])], COUNTERS[::-1], late=5),
            Program([("a", ROWS), ("b", [])], COUNTERS, late=4),
            Program([("a", ROWS), ("c", [])], COUNTERS, late=5),
            Program([("a", ROWS), ("b", [("pass",)])], COUNTERS, late=5),
            Program([("a", ROWS)], COUNTERS, late=5),
            Program([("a", ROWS), ("b", [])], [("q", 1, 3), ("r", 0, 9)], late=5),
            Program([("a", ROWS), ("b", [])], [("q", 1, 2)], late=5),
        ]
        for other in others:
            self.assertIs(program() == other, False)
            self.assertIs(program() != other, True)
        branches = [Program([("a", [("either", [("pass",)], [])])]), Program([("a", [("either", [], [("pass",)])])])]
        self.assertNotEqual(branches[0], branches[1])

    def test_unequal_to_other_objects(self):
        for thing in [None, True, 2, "a", program().text(), ["a", "b"], [("a", ROWS), ("b", [])], {}, Span(2)]:
            self.assertIs(program() == thing, False)
            self.assertIs(thing == program(), False)


class SlowerTest(unittest.TestCase):
    def test_slower(self):
        slow = program().slower(3)
        self.assertEqual(slow["a"], [
            ("say", "x"),
            ("within", 12, [("sleep", 6), ("either", [("take", "q")], [])], [("give", "q")]),
            ("work", 3, 9),
            ("ever", [("pass",)]),
        ])
        self.assertEqual((slow.late, slow.counters(), slow["b"]), (15, COUNTERS, []))
        self.assertEqual(program().slower(1), program())
        zero = Program([("a", [("work", 0, 0)])])
        self.assertEqual(zero.slower(10 ** 40), zero)

    def test_wrong_factors(self):
        for thing in [0, -1, None, True, "1", [], (2,), {}, Span(2), program()]:
            with self.assertRaises(BadPart) as caught:
                program().slower(thing)
            self.assertIs(caught.exception.part, thing)

    def test_too_great_numbers(self):
        self.assertEqual(program().slower(19).late, 95)
        with self.assertRaises(BadLate) as caught:
            program().slower(20)
        self.assertEqual(caught.exception.late, 100)
        punctual = program().with_late(0)
        self.assertEqual(punctual.slower(24)["a"][1][1], 96)
        with self.assertRaises(BadRow) as caught:
            punctual.slower(25)
        self.assertEqual(vars(caught.exception), {"task": "a", "place": 1, "reason": "number"})
        with self.assertRaises(BadRow) as caught:
            Program([("a", []), ("b", [("sleep", 9), ("work", 0, 10)])]).slower(10)
        self.assertEqual(vars(caught.exception), {"task": "b", "place": 1, "reason": "number"})


class RowTest(unittest.TestCase):
    def test_row(self):
        for place, row in enumerate(FLAT):
            self.assertEqual(repr(program().row("a", place)), repr(row))

    def test_unknown_tasks_come_first(self):
        for thing in [*NO_NAMES, program()]:
            for call in (lambda: program().row(thing, None), lambda: program().with_row(thing, None, None)):
                with self.assertRaises(UnknownTask) as caught:
                    call()
                self.assertIs(caught.exception.name, thing)

    def test_wrong_places(self):
        for thing in [-1, 9, 10 ** 40, None, True, False, "0", [], [0], {}, Span(0), Span(1), program()]:
            for call in (lambda: program().row("a", thing), lambda: program().with_row("a", thing, None)):
                with self.assertRaises(BadPlace) as caught:
                    call()
                self.assertIs(caught.exception.place, thing)
        with self.assertRaises(BadPlace):
            program().row("b", 0)


class ChangedTest(unittest.TestCase):
    def test_with_row_at_each_place(self):
        for place in range(9):
            made = program()
            changed = made.with_row("a", place, ("sleep", 77) if place != 4 else ["either", [["sleep", 77]], ()])
            wanted = ("sleep", 77) if place != 4 else ("either", [("sleep", 77)], [])
            self.assertEqual(changed.row("a", place), wanted)
            self.assertEqual(changed.names(), ["a", "b"])
            self.assertEqual((changed.counters(), changed.late, changed["b"]), (COUNTERS, 5, []))
            self.assertEqual(made, program())
            for other in range(place):
                if other not in (1, 3, 7):
                    self.assertEqual(changed.row("a", other), FLAT[other])

    def test_with_row_whole(self):
        self.assertEqual(program().with_row("a", 3, ("pass",))["a"], [
            ("say", "x"),
            ("within", 4, [("sleep", 2), ("pass",)], [("give", "q")]),
            ("work", 1, 3),
            ("ever", [("pass",)]),
        ])
        self.assertEqual(program().with_row("a", 5, ("work", 0, 1))["a"][1][3], [("work", 0, 1)])

    def test_with_row_leaves_other_tasks(self):
        two = Program([("a", [("pass",)]), ("b", [("pass",)])])
        self.assertEqual(two.with_row("b", 0, ("say", "x")), Program([("a", [("pass",)]), ("b", [("say", "x")])]))

    def test_errors_of_the_new_program(self):
        tests = [
            (0, None, 0, "row"), (0, ("sleep", 0), 0, "number"), (5, ("say", "X"), 5, "word"),
            (4, ("take", "z"), 4, "counter"), (2, ("either", [], 1), 2, "rows"),
            (2, ("within", 1, [], []), 2, "nested"), (0, ("ever", [("pass",)]), 0, "last"),
            (8, ("say", "x"), 7, "waits"), (6, ("either", [("pass",)] * 3, [("pass",)]), 12, "many"),
            (0, ("either", [("pass",), ("nap",)], []), 2, "row"),
        ]
        for place, row, wrong, reason in tests:
            with self.assertRaises(BadRow) as caught:
                program().with_row("a", place, row)
            self.assertEqual(vars(caught.exception), {"task": "a", "place": wrong, "reason": reason})

    def test_with_late(self):
        self.assertEqual(program().with_late(99), Program([("a", ROWS), ("b", [])], COUNTERS, late=99))
        for thing in [-1, 100, None, True, "1", [], Span(1), program()]:
            with self.assertRaises(BadLate) as caught:
                program().with_late(thing)
            self.assertIs(caught.exception.late, thing)


if __name__ == "__main__":
    unittest.main()
