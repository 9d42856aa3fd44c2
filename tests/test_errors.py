"""Point 38: the errors of the package; point 4: what they hold."""

import unittest

from looptimes import errors
from looptimes.programs import Program
from looptimes.spans import Span

PARAMETERS = {
    "BadPart": ["part"],
    "BadText": ["line"],
    "BadTask": ["index"],
    "BadCounter": ["index"],
    "BadLate": ["late"],
    "BadRow": ["task", "place", "reason"],
    "UnknownTask": ["name"],
    "BadPlace": ["place"],
    "BadEvent": ["index"],
    "BadShift": ["shift"],
    "BadWish": [],
    "BadRun": [],
    "BadWeights": ["index"],
    "BadWord": ["word"],
}


class ErrorsTest(unittest.TestCase):
    def test_loop_error(self):
        self.assertEqual(errors.LoopError.__bases__, (ValueError,))
        self.assertIsInstance(errors.LoopError(), ValueError)
        with self.assertRaises(TypeError):
            errors.LoopError("x")

    def test_all_errors_and_no_others(self):
        found = [name for name, thing in vars(errors).items() if isinstance(thing, type)]
        self.assertEqual(sorted(found), sorted([*PARAMETERS, "LoopError"]))

    def test_direct_subclasses(self):
        for name in PARAMETERS:
            self.assertEqual(getattr(errors, name).__bases__, (errors.LoopError,), name)

    def test_attributes_by_position_and_by_name(self):
        things = [object(), Span(1, 2), Program([("a", [])]), [[]], {"a": 1}, None, True, "x", 10 ** 40]
        for name, parameters in PARAMETERS.items():
            error_class = getattr(errors, name)
            for at in range(len(things)):
                passed = [things[(at + k) % len(things)] for k in range(len(parameters))]
                by_position = error_class(*passed)
                by_name = error_class(**dict(zip(parameters, passed)))
                for parameter, thing in zip(parameters, passed):
                    self.assertIs(getattr(by_position, parameter), thing)
                    self.assertIs(getattr(by_name, parameter), thing)

    def test_wrong_number_of_arguments(self):
        for name, parameters in PARAMETERS.items():
            with self.assertRaises(TypeError):
                getattr(errors, name)(*([1] * (len(parameters) + 1)))
            if parameters:
                with self.assertRaises(TypeError):
                    getattr(errors, name)()

    def test_they_hold_the_very_object(self):
        program = Program([("a", [])])
        for thing in ([], {}, Span(1, 2), "q", program):
            with self.assertRaises(errors.BadPart) as caught:
                Span(thing)
            self.assertIs(caught.exception.part, thing)
            with self.assertRaises(errors.BadPart) as caught:
                Span(1, thing)
            self.assertIs(caught.exception.part, thing)
            with self.assertRaises(errors.BadPart) as caught:
                program.slower(thing)
            self.assertIs(caught.exception.part, thing)
            with self.assertRaises(errors.BadLate) as caught:
                program.with_late(thing)
            self.assertIs(caught.exception.late, thing)
            with self.assertRaises(errors.UnknownTask) as caught:
                program[thing]
            self.assertIs(caught.exception.name, thing)
            with self.assertRaises(errors.BadPlace) as caught:
                program.row("a", thing)
            self.assertIs(caught.exception.place, thing)


if __name__ == "__main__":
    unittest.main()
