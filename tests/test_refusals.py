"""Points 10 and 12: what a Program refuses, and in which order."""

import unittest

from looptimes.errors import BadCounter, BadLate, BadRow, BadTask, LoopError
from looptimes.programs import Program
from looptimes.spans import Span

PROGRAM = Program([("a", [])])
NO_LISTS = [None, True, False, 0, 1, "", "abc", {}, {0: 1}, Span(1), PROGRAM]
NO_WORDS = [None, True, 1, "", "A", "aB", "a1", "a b", "a\n", "abcdefghi", "\u00e4", "\u00aa", ["a"], ("a",), {"a": 1},
            Span(1), PROGRAM]
NO_INTEGERS = [None, True, False, "1", "", [], [1], (1,), {}, Span(1), Span(1, 2), PROGRAM]
WAIT = ("pass",)


def error_of(*passed, **named):
    """Return the error of a Program as a list of its class and attributes, None if there is none."""
    try:
        Program(*passed, **named)
    except LoopError as error:
        return [type(error), *vars(error).values()]
    return None


def row_error(rows, counters=()):
    """Return the error of a Program with one task `a`: its place and reason."""
    error = error_of([("a", rows)], counters)
    if error is None:
        return None
    assert error[:2] == [BadRow, "a"], error
    return error[2], error[3]


class TasksTest(unittest.TestCase):
    def test_no_list_or_empty(self):
        for tasks in [*NO_LISTS, [], ()]:
            self.assertEqual(error_of(tasks), [BadTask, 0])

    def test_items_that_are_no_pairs(self):
        for thing in [*NO_LISTS, [], ("b",), ("b", [], []), "bc", [[], "b"]]:
            self.assertEqual(error_of([("a", []), thing]), [BadTask, 1])

    def test_names(self):
        for name in NO_WORDS:
            self.assertEqual(error_of([("a", []), ("b", []), (name, [])]), [BadTask, 2])
        self.assertEqual(error_of([("a", []), ("b", []), ("a", [])]), [BadTask, 2])
        self.assertIsNone(error_of([("abcdefgh", []), ("z", [])]))

    def test_rows_that_are_no_list(self):
        for thing in NO_LISTS:
            self.assertEqual(error_of([("a", thing)]), [BadTask, 0])

    def test_number_of_tasks(self):
        tasks = [("a", []), ("b", []), ("c", []), ("d", []), ("e", [])]
        self.assertIsNone(error_of(tasks[:3]))
        self.assertEqual(error_of(tasks[:4]), [BadTask, 3])
        self.assertEqual(error_of(tasks), [BadTask, 3])
        self.assertEqual(error_of([("a", []), ("a", []), ("b", []), ("c", [])]), [BadTask, 1])


class CountersTest(unittest.TestCase):
    def test_no_list(self):
        for counters in NO_LISTS:
            self.assertEqual(error_of([("a", [])], counters), [BadCounter, 0])

    def test_items_that_are_no_triples(self):
        for thing in [*NO_LISTS, [], ("b", 1), ("b", 0, 1, 1), "abc"]:
            self.assertEqual(error_of([("a", [])], [("a", 0, 1), thing]), [BadCounter, 1])

    def test_names(self):
        for name in NO_WORDS:
            self.assertEqual(error_of([("a", [])], [(name, 0, 1)]), [BadCounter, 0])
        self.assertEqual(error_of([("a", [])], [("q", 0, 1), ("q", 0, 2)]), [BadCounter, 1])
        self.assertIsNone(error_of([("a", [])], [("a", 0, 1), ("q", 0, 2)]))

    def test_numbers(self):
        for start, room in ((0, 1), (1, 1), (0, 9), (9, 9), (4, 7)):
            self.assertIsNone(error_of([("a", [])], [("q", start, room)]))
        for start, room in ((0, 0), (2, 1), (0, 10), (10, 9), (-1, 3), (1, -1), (10, 10)):
            self.assertEqual(error_of([("a", [])], [("q", start, room)]), [BadCounter, 0])
        for thing in NO_INTEGERS:
            self.assertEqual(error_of([("a", [])], [("q", thing, 1)]), [BadCounter, 0])
            self.assertEqual(error_of([("a", [])], [("q", 0, thing)]), [BadCounter, 0])

    def test_number_of_counters(self):
        counters = [("q", 0, 1), ("r", 0, 1), ("s", 0, 1), ("t", 0, 1)]
        self.assertIsNone(error_of([("a", [])], counters[:2]))
        self.assertEqual(error_of([("a", [])], counters[:3]), [BadCounter, 2])
        self.assertEqual(error_of([("a", [])], counters), [BadCounter, 2])


class LatenessTest(unittest.TestCase):
    def test_lateness(self):
        for late in (0, 1, 99):
            self.assertIsNone(error_of([("a", [])], late=late))
        for late in [-1, 100, 10 ** 40, *NO_INTEGERS]:
            error = error_of([("a", [])], late=late)
            self.assertIs(error[0], BadLate)
            self.assertIs(error[1], late)

    def test_by_name_only(self):
        with self.assertRaises(TypeError):
            Program([("a", [])], [], 1)

    def test_order_of_the_parameters(self):
        wrong_rows = [("a", [("say", 1)])]
        self.assertEqual(error_of([], None, late=None), [BadTask, 0])
        self.assertEqual(error_of(wrong_rows, None, late=None), [BadCounter, 0])
        self.assertEqual(error_of(wrong_rows, [], late=None), [BadLate, None])
        self.assertEqual(error_of(wrong_rows, [], late=0), [BadRow, "a", 0, "word"])


class RowsTest(unittest.TestCase):
    def test_right_rows(self):
        rows = [
            ("work", 0, 0), ("work", 0, 99), ("work", 99, 99), ("say", "abcdefgh"), ("sleep", 1), ("sleep", 99),
            ("take", "q"), ("give", "q"), ("either", [], ()), ("within", 1, [], []), ("within", 99, (), []),
            ("ever", [("pass",)]),
        ]
        self.assertIsNone(row_error(rows[:-1], [("q", 0, 1)]))
        for row in rows:
            self.assertIsNone(row_error([row], [("q", 0, 1)]))
            self.assertIsNone(row_error([list(row)], [["q", 0, 1]]))

    def test_many(self):
        self.assertIsNone(row_error([WAIT] * 12))
        self.assertEqual(row_error([WAIT] * 13), (12, "many"))
        self.assertEqual(row_error([("ever", [WAIT] * 12)]), (12, "many"))
        self.assertEqual(row_error([("either", [WAIT] * 6, [WAIT] * 5)]), None)
        self.assertEqual(row_error([("either", [WAIT] * 6, [WAIT] * 6)]), (12, "many"))
        self.assertEqual(row_error([WAIT] * 12 + [None]), (12, "many"))
        self.assertEqual(row_error([WAIT] * 11 + [None, WAIT]), (11, "row"))
        self.assertIsNone(error_of([("a", [WAIT] * 12), ("b", [WAIT] * 12)]))

    def test_row(self):
        wrong = [*NO_LISTS, "pass", [], (), ("nap",), ("Pass",), ("pass", 1), ("work", 1), ("work", 1, 2, 3), ("say",),
                 ("say", "a", "b"), ("sleep",), ("sleep", 1, 2), ("take",), ("give", "q", "q"), ("either", []),
                 ("either", [], [], []), ("ever",), ("ever", [], []), ("within", 1, []), ("within", [], []),
                 ("within", 1, [], [], []), (["pass"],), ({},), (None,), (True,), (PROGRAM,), (Span(1),), ["end"],
                 ["or"]]
        for row in wrong:
            self.assertEqual(row_error([WAIT, row], [("q", 0, 1)]), (1, "row"), row)

    def test_number(self):
        for thing in NO_INTEGERS:
            for row in (("work", thing, 5), ("work", 0, thing), ("sleep", thing), ("within", thing, [], [])):
                self.assertEqual(row_error([row]), (0, "number"), row)
        wrong = [("work", 2, 1), ("work", -1, 1), ("work", 0, 100), ("work", 100, 100), ("sleep", 0), ("sleep", 100),
                 ("sleep", -1), ("within", 0, [], []), ("within", 100, [], []), ("work", 0, -1)]
        for row in wrong:
            self.assertEqual(row_error([row]), (0, "number"), row)

    def test_word(self):
        for thing in NO_WORDS:
            self.assertEqual(row_error([("say", thing)]), (0, "word"), thing)

    def test_counter(self):
        for thing in [*NO_WORDS, "a", "r"]:
            for kind in ("take", "give"):
                self.assertEqual(row_error([(kind, thing)], [("q", 0, 1)]), (0, "counter"), thing)
                self.assertEqual(row_error([(kind, thing)]), (0, "counter"), thing)
        self.assertIsNone(row_error([("take", "r"), ("give", "q")], [("q", 0, 1), ("r", 0, 1)]))

    def test_rows(self):
        for thing in NO_LISTS:
            for row in (("ever", thing), ("either", thing, []), ("either", [], thing), ("within", 1, thing, []),
                        ("within", 1, [], thing)):
                self.assertEqual(row_error([row]), (0, "rows"), row)

    def test_nested(self):
        inner = ("within", 1, [], [])
        self.assertEqual(row_error([("within", 1, [inner], [])]), (1, "nested"))
        self.assertEqual(row_error([("within", 1, [WAIT], [inner])]), (2, "nested"))
        self.assertEqual(row_error([("within", 1, [("either", [], [("ever", [inner, WAIT])])], [])]), (3, "nested"))
        self.assertEqual(row_error([("within", 1, [], [("either", [WAIT], [inner])])]), (3, "nested"))
        self.assertIsNone(row_error([("either", [inner], [inner]), inner, ("ever", [inner, WAIT])]))

    def test_last(self):
        ever = ("ever", [WAIT])
        self.assertEqual(row_error([ever, WAIT]), (0, "last"))
        self.assertEqual(row_error([ever, None]), (0, "last"))
        self.assertEqual(row_error([("either", [ever, WAIT], [])]), (1, "last"))
        self.assertEqual(row_error([("within", 1, [], [WAIT, ever, ever])]), (2, "last"))
        self.assertIsNone(row_error([WAIT, ("either", [ever], [WAIT, ever]), ever]))
        self.assertIsNone(row_error([WAIT, ("within", 2, [WAIT, ever], [ever]), ever]))

    def test_order_of_the_reasons(self):
        ever = ("ever", None)
        self.assertEqual(row_error([("within", 0, None, [])]), (0, "number"))
        self.assertEqual(row_error([("within", 1, [("within", 0, [], [])], [])]), (1, "number"))
        self.assertEqual(row_error([("within", 1, [("within", 1, 1, [])], [])]), (1, "rows"))
        self.assertEqual(row_error([ever, WAIT]), (0, "rows"))
        self.assertEqual(row_error([WAIT] * 12 + [("sleep", 0)]), (12, "many"))

    def test_order_of_the_numbers(self):
        self.assertEqual(row_error([("either", [WAIT, ("sleep", 0)], None)]), (0, "rows"))
        self.assertEqual(row_error([("either", [WAIT, ("sleep", 0)], [None]), ("say", 1)]), (2, "number"))
        self.assertEqual(row_error([("either", [WAIT], [None]), ("say", 1)]), (2, "row"))
        self.assertEqual(row_error([("either", [WAIT], [WAIT]), ("say", 1)]), (3, "word"))
        wrong = [("x", [WAIT]), ("y", [WAIT, ("say", 1)]), ("z", [None])]
        self.assertEqual(error_of(wrong), [BadRow, "y", 1, "word"])

    def test_waits(self):
        say, ever = ("say", "x"), ("ever", [WAIT])
        never_wait = [[], [say], [("work", 1, 1)], [("take", "q")], [("give", "q")], [("either", [WAIT], [])],
                      [("either", [], [WAIT])], [("within", 1, [], [WAIT])], [("within", 1, [say], [("sleep", 1)])]]
        for rows in never_wait:
            self.assertEqual(row_error([say, ("ever", rows)], [("q", 1, 1)]), (1, "waits"), rows)
        surely_wait = [[say, WAIT], [("sleep", 1), say], [say, ever], [("either", [WAIT], [("sleep", 1)])],
                       [("within", 1, [WAIT], [])], [("either", [ever], [("within", 1, [say, ever], [])])]]
        for rows in surely_wait:
            self.assertIsNone(row_error([say, ("ever", rows)], [("q", 1, 1)]), rows)

    def test_the_first_that_does_not_wait(self):
        idle = ("ever", [])
        self.assertEqual(row_error([("ever", [idle])]), (1, "waits"))
        self.assertEqual(row_error([("either", [WAIT, ("ever", [("either", [], [idle])])], [idle])]), (2, "waits"))
        self.assertEqual(error_of([("x", [WAIT]), ("y", [WAIT, idle]), ("z", [idle])]), [BadRow, "y", 1, "waits"])
        self.assertEqual(error_of([("x", [idle]), ("y", [("sleep", 0)])]), [BadRow, "y", 0, "number"])

    def test_lists_that_contain_themselves(self):
        rows = []
        rows.append(("either", rows, []))
        self.assertEqual(row_error(rows), (12, "many"))
        row = ["within", 3]
        row.extend([[row], [row]])
        self.assertEqual(row_error([row]), (1, "nested"))
        row = ["ever"]
        row.append(row)
        self.assertEqual(row_error([row]), (1, "row"))

    def test_deep_lists(self):
        rows = []
        for _ in range(20000):
            rows = [("either", rows, [])]
        self.assertEqual(row_error(rows), (12, "many"))
        self.assertEqual(row_error([rows]), (0, "row"))


if __name__ == "__main__":
    unittest.main()
