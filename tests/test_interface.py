"""The interface: where functions and classes are defined, and the names of their parameters."""

import inspect
import unittest

from looptimes import errors, programs, runs, spans, standings, times, wishes, words

METHODS = {
    spans.Span: {
        "__init__": "(self, over, under=1)", "text": "(self)", "of_text": "(text)",
        "__add__": None, "__radd__": None, "__sub__": None, "__rsub__": None, "__mul__": None, "__rmul__": None,
        "__floordiv__": None, "__rfloordiv__": None, "__mod__": None, "__rmod__": None, "__neg__": None,
        "__abs__": None, "__eq__": None, "__lt__": None, "__le__": None, "__gt__": None, "__ge__": None,
    },
    programs.Program: {
        "__init__": "(self, tasks, counters=(), *, late=0)", "names": "(self)", "counters": "(self)",
        "__getitem__": None, "__contains__": None, "__len__": None, "__eq__": None, "slower": "(self, k)",
        "row": "(self, name, place)", "with_row": "(self, name, place, row)", "with_late": "(self, late)",
        "text": "(self)", "of_text": "(text)",
    },
    runs.Run: {
        "__init__": "(self, program, events=())", "events": "(self)", "__len__": None, "__eq__": None,
        "further": "(self, events)", "now": "(self)", "log": "(self)", "standing": "(self)",
        "spent": "(self, weights)", "floored": "(self, shift=0)", "parts": "(self)",
    },
}
FUNCTIONS = {
    spans.floored: "(number)",
    spans.plain: "(number)",
    standings.start: "(program)",
    standings.steps: "(program, standing)",
    wishes.judge: "(program, wish)",
    wishes.is_closed: "(program, wish, pairs)",
    wishes.is_broken: "(wish, run)",
    wishes.slowest: "(program, name, place, wish)",
    wishes.latest: "(program, wish)",
    times.most: "(program, weights, a, b)",
    times.is_most: "(program, weights, a, b, number, heights)",
    times.pace: "(program, weights)",
    times.is_pace: "(program, weights, number, heights)",
    words.alike: "(one, other)",
}


class InterfaceTest(unittest.TestCase):
    def test_methods(self):
        for owner, methods in METHODS.items():
            for name, signature in methods.items():
                self.assertIn(name, vars(owner))
                if signature is not None:
                    self.assertEqual(str(inspect.signature(getattr(owner, name))), signature)

    def test_static_methods(self):
        for owner in (spans.Span, programs.Program):
            self.assertIsInstance(vars(owner)["of_text"], staticmethod)

    def test_functions(self):
        for function, signature in FUNCTIONS.items():
            self.assertEqual(str(inspect.signature(function)), signature)

    def test_files(self):
        self.assertEqual(spans.Span.__module__, "looptimes.spans")
        self.assertEqual(programs.Program.__module__, "looptimes.programs")
        self.assertEqual({spans.floored.__module__, spans.plain.__module__}, {"looptimes.spans"})
        self.assertEqual({standings.start.__module__, standings.steps.__module__}, {"looptimes.standings"})
        self.assertEqual(errors.LoopError.__module__, "looptimes.errors")
        self.assertEqual(runs.Run.__module__, "looptimes.runs")
        for module in (wishes, times, words):
            found = [function for function in FUNCTIONS if function.__module__ == module.__name__]
            self.assertEqual(len(found), {"wishes": 5, "times": 4, "words": 1}[module.__name__.split(".")[1]])
            for function in found:
                self.assertIs(getattr(module, function.__name__), function)


if __name__ == "__main__":
    unittest.main()
