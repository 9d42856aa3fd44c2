"""Point 15: programs as texts."""

import unittest

from looptimes.errors import BadCounter, BadLate, BadRow, BadTask, BadText
from looptimes.programs import Program

PROGRAM = Program(
    [
        ("a", [
            ("say", "x"),
            ("within", 4, [("sleep", 2), ("either", [("take", "q")], [])], [("give", "q")]),
            ("work", 0, 13),
            ("ever", [("pass",)]),
        ]),
        ("b", []),
        ("c", [("either", [], [("ever", [("sleep", 99)])])]),
    ],
    [("q", 1, 2), ("r", 0, 9)],
    late=10,
)
TEXT = """late 10
counter q 1 2
counter r 0 9
task a
say x
within 4
sleep 2
either
take q
or
end
or
give q
end
work 0 13
ever
pass
end
task b
task c
either
or
ever
sleep 99
end
end
"""


class TextsTest(unittest.TestCase):
    def wrong_line(self, text):
        with self.assertRaises(BadText, msg=text) as caught:
            Program.of_text(text)
        return caught.exception.line

    def test_text(self):
        self.assertEqual(PROGRAM.text(), TEXT)
        self.assertEqual(Program([("a", [])]).text(), "late 0\ntask a\n")

    def test_of_text(self):
        self.assertEqual(Program.of_text(TEXT), PROGRAM)
        self.assertEqual(Program.of_text(text="late 0\ntask a\n"), Program([("a", [])]))
        self.assertEqual(Program.of_text(TEXT)["a"], PROGRAM["a"])

    def test_each_line_without_its_successors(self):
        lines = TEXT.split("\n")[:-1]
        open_rows, tasks = 0, 0
        for many, line in enumerate(lines, 1):
            open_rows += line.split(" ")[0] in ("ever", "either", "within")
            open_rows -= line == "end"
            tasks += line.startswith("task")
            text = "\n".join(lines[:many])
            self.assertEqual(self.wrong_line(text), many)
            if open_rows or not tasks:
                self.assertEqual(self.wrong_line(text + "\n"), many + 1)
            else:
                self.assertIsInstance(Program.of_text(text + "\n"), Program)
            self.assertEqual(self.wrong_line(text + "\n\n"), many + 1)

    def test_short_texts(self):
        self.assertEqual(self.wrong_line(""), 1)
        self.assertEqual(self.wrong_line("\n"), 1)
        self.assertEqual(self.wrong_line("late 0"), 1)
        self.assertEqual(self.wrong_line("late 0\n"), 2)
        self.assertEqual(self.wrong_line("late 0\ncounter q 0 1\n"), 3)
        self.assertEqual(self.wrong_line("late 0\ntask a"), 2)

    def test_no_texts(self):
        for thing in [None, True, 1, [TEXT], {}, PROGRAM]:
            self.assertEqual(self.wrong_line(thing), 1)

    def test_lines_of_another_form(self):
        wrong = [
            "", " ", "x", "work", "work 1", "work 1 2 3", "work 1 a", "work 01 2", "work 1  2", "work 1 2 ",
            " work 1 2", "work -1 2", "work +1 2", "work 1\t2", "work 1 2\r", "Work 1 2", "say", "say X", "say abcdefghi",
            "say x y", "say 1", "pass 1", "pass ", "sleep", "sleep 00", "sleep 1.0", "sleep \u0661", "take", "take 1",
            "give q q", "either 1", "ever 1", "within", "within 1 2", "or 1", "end ", "task", "task B", "task b c",
            "task abcdefghi", "counter", "late", "late 1", "taskb", "end\x0b", "#", "pass # x",
        ]
        for line in wrong:
            self.assertEqual(self.wrong_line("late 0\ntask a\n" + line + "\npass\n"), 3)
            if line:
                self.assertEqual(self.wrong_line("late 0\ntask a\npass\n" + line), 4)

    def test_the_first_line(self):
        for line in ("late", "late -1", "late 00", "late 1 2", "Late 1", "task a", "counter q 0 1", "pass", "or", "end"):
            self.assertEqual(self.wrong_line(line + "\nlate 0\ntask a\n"), 1)
        for lines in ("late 0\nlate 0\ntask a\n", "late 0\nlate 1\n"):
            self.assertEqual(self.wrong_line(lines), 2)

    def test_counters(self):
        for line in ("counter q", "counter q 1", "counter q 1 2 3", "counter q 01 2", "counter Q 1 2", "counter 1 1 2"):
            self.assertEqual(self.wrong_line("late 0\n" + line + "\ntask a\n"), 2)
        self.assertEqual(self.wrong_line("late 0\ntask a\ncounter q 0 1\n"), 3)
        self.assertEqual(self.wrong_line("late 0\ntask a\never\ncounter q 0 1\npass\nend\n"), 4)

    def test_rows_ahead_of_the_first_task(self):
        for line in ("work 1 2", "say x", "pass", "sleep 1", "take q", "give q", "either", "ever", "within 1", "or", "end"):
            self.assertEqual(self.wrong_line("late 0\n" + line + "\ntask a\n"), 2)

    def test_or_and_end(self):
        head = "late 0\ntask a\n"
        wrong = [
            ("or\n", 3), ("end\n", 3), ("pass\nor\n", 4), ("pass\nend\n", 4), ("ever\nor\npass\nend\n", 4),
            ("ever\npass\nor\nend\n", 5), ("either\nend\n", 4), ("within 1\nend\n", 4), ("either\nor\nor\nend\n", 5),
            ("within 2\nor\nor\nend\n", 5), ("ever\npass\nend\nend\n", 6), ("either\nor\nend\nor\n", 6),
            ("either\never\npass\nor\nend\nend\n", 6), ("either\neither\nor\nend\nend\n", 7),
        ]
        for text, line in wrong:
            self.assertEqual(self.wrong_line(head + text), line, text)

    def test_tasks_while_a_row_is_open(self):
        for row in ("ever\npass", "either\npass", "within 2\npass", "either\nor"):
            self.assertEqual(self.wrong_line("late 0\ntask a\n" + row + "\ntask b\n"), 5)
            self.assertEqual(self.wrong_line("late 0\ntask a\n" + row + "\ntask b"), 5)
            self.assertEqual(self.wrong_line("late 0\ntask a\n" + row + "\n"), 5)

    def test_the_text_comes_before_the_errors_of_the_program(self):
        self.assertEqual(self.wrong_line("late 100\ntask a\nsleep 0\nnap\n"), 4)
        self.assertEqual(self.wrong_line("late 100\ntask a\nsleep 0"), 3)

    def test_errors_of_the_program(self):
        tests = [
            ("late 100\ntask a\n", BadLate, {"late": 100}),
            ("late 0\ncounter q 2 1\ntask a\n", BadCounter, {"index": 0}),
            ("late 0\ncounter q 0 1\ncounter q 0 1\ntask a\n", BadCounter, {"index": 1}),
            ("late 0\ntask a\ntask a\n", BadTask, {"index": 1}),
            ("late 0\ntask a\ntask b\ntask c\ntask d\n", BadTask, {"index": 3}),
            ("late 0\ntask a\nsleep 0\n", BadRow, {"task": "a", "place": 0, "reason": "number"}),
            ("late 0\ntask a\ntake q\n", BadRow, {"task": "a", "place": 0, "reason": "counter"}),
            ("late 0\ntask a\never\nend\n", BadRow, {"task": "a", "place": 0, "reason": "waits"}),
            ("late 0\ntask a\n" + "pass\n" * 13, BadRow, {"task": "a", "place": 12, "reason": "many"}),
        ]
        for text, error, attributes in tests:
            with self.assertRaises(error) as caught:
                Program.of_text(text)
            self.assertEqual(vars(caught.exception), attributes)

    def test_long_texts(self):
        deep = "late 0\ntask a\n" + "ever\n" * 660 + "end\n" * 660
        with self.assertRaises(BadRow) as caught:
            Program.of_text(deep)
        self.assertEqual((caught.exception.place, caught.exception.reason), (12, "many"))
        with self.assertRaises(BadRow) as caught:
            Program.of_text("late 0\ntask a\nsleep " + "9" * 5900 + "\n")
        self.assertEqual((caught.exception.place, caught.exception.reason), (0, "number"))
        self.assertEqual(self.wrong_line("x" * 6000), 1)


if __name__ == "__main__":
    unittest.main()
