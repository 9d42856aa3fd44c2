"""Points 6 to 9: exact numbers."""

import operator
import unittest
from fractions import Fraction
from math import floor

from looptimes.errors import BadPart, BadText
from looptimes.programs import Program
from looptimes.spans import Span, floored, plain

PROGRAM = Program([("a", [])])
NO_NUMBERS = [None, True, False, "1", "", [], [1], (), (1,), {}, {1: 2}, PROGRAM]
PAIRS = [(over, under) for over in (-7, -6, -3, -1, 0, 1, 2, 6, 9) for under in (-4, -3, -1, 1, 2, 3, 6)]
ARITHMETIC = [operator.add, operator.sub, operator.mul, operator.floordiv, operator.mod]
ORDERS = [operator.lt, operator.le, operator.gt, operator.ge]


def fraction(number):
    """Return the number as a Fraction."""
    return Fraction(number.over, number.under) if isinstance(number, Span) else Fraction(number)


class MakingTest(unittest.TestCase):
    def test_lowest_terms(self):
        for over, under in PAIRS:
            span = Span(over, under)
            wanted = Fraction(over, under)
            self.assertEqual((span.over, span.under), (wanted.numerator, wanted.denominator))
            self.assertEqual((type(span.over), type(span.under)), (int, int))

    def test_default_and_names(self):
        self.assertEqual((Span(5).over, Span(5).under), (5, 1))
        span = Span(under=-4, over=6)
        self.assertEqual((span.over, span.under), (-3, 2))
        self.assertEqual((Span(0, -9).over, Span(0, -9).under), (0, 1))

    def test_large_integers(self):
        big = 10 ** 40 - 1
        self.assertEqual((Span(big * 7, 7).over, Span(big * 7, 7).under), (big, 1))
        self.assertEqual((Span(big, big + 1) - Span(big - 1, big)), Span(1, (big + 1) * big))
        self.assertEqual(Span(10 ** 90, 3).text(), "1" + "0" * 90 + "/3")

    def test_wrong_parts(self):
        for thing in [*NO_NUMBERS, Span(1), Span(1, 2)]:
            for passed in ((thing, 1), (thing, 0), (thing, None), (1, thing)):
                with self.assertRaises(BadPart) as caught:
                    Span(*passed)
                self.assertIs(caught.exception.part, thing)
        with self.assertRaises(BadPart) as caught:
            Span(3, 0)
        self.assertEqual(caught.exception.part, 0)
        self.assertIs(type(caught.exception.part), int)


class OperatorsTest(unittest.TestCase):
    def numbers(self):
        return [Span(*pair) for pair in PAIRS], [*[Span(*pair) for pair in PAIRS], -3, 0, 1, 4]

    def test_arithmetic_on_either_side(self):
        spans, numbers = self.numbers()
        for one in spans:
            for two in numbers:
                for a, b in ((one, two), (two, one)):
                    for work in ARITHMETIC:
                        self.check_arithmetic(work, a, b)

    def check_arithmetic(self, work, a, b):
        if work in (operator.floordiv, operator.mod) and fraction(b) == 0:
            with self.assertRaises(BadPart) as caught:
                work(a, b)
            self.assertIs(caught.exception.part, b)
            return
        result = work(a, b)
        self.assertIs(type(result), int if work is operator.floordiv else Span)
        self.assertEqual(fraction(result), work(fraction(a), fraction(b)))

    def test_one_operand_operators(self):
        for over, under in PAIRS:
            for work in (operator.neg, abs):
                result = work(Span(over, under))
                self.assertIs(type(result), Span)
                self.assertEqual(fraction(result), work(Fraction(over, under)))

    def test_whole_results_are_spans(self):
        for result in (Span(1, 2) + Span(1, 2), 1 - Span(1), 2 * Span(1, 2), Span(7) % 4, -Span(2), abs(Span(-2))):
            self.assertIs(type(result), Span)
            self.assertEqual(result.under, 1)

    def test_orders(self):
        spans, numbers = self.numbers()
        for one in spans:
            for two in numbers:
                for work in ORDERS:
                    self.assertIs(work(one, two), work(fraction(one), fraction(two)))
                    self.assertIs(work(two, one), work(fraction(two), fraction(one)))

    def test_equality(self):
        spans, numbers = self.numbers()
        for one in spans:
            for two in numbers:
                self.assertIs(one == two, fraction(one) == fraction(two))
                self.assertIs(two == one, fraction(one) == fraction(two))
                self.assertIs(one != two, fraction(one) != fraction(two))

    def test_unequal_to_all_other_objects(self):
        for thing in [*NO_NUMBERS, "1/2", [Span(1, 2)]]:
            for span in (Span(1), Span(0), Span(1, 2)):
                self.assertIs(span == thing, False)
                self.assertIs(thing == span, False)
                self.assertIs(span != thing, True)

    def test_other_operands(self):
        for thing in NO_NUMBERS:
            for work in ARITHMETIC + ORDERS:
                for span in (Span(0), Span(1, 2)):
                    with self.assertRaises(BadPart) as caught:
                        work(span, thing)
                    self.assertIs(caught.exception.part, thing)
                    if work is operator.mod and isinstance(thing, str):
                        continue
                    with self.assertRaises(BadPart) as caught:
                        work(thing, span)
                    self.assertIs(caught.exception.part, thing)


class TextsTest(unittest.TestCase):
    def test_text(self):
        self.assertEqual(Span(-7, 3).text(), "-7/3")
        self.assertEqual(Span(6, -4).text(), "-3/2")
        self.assertEqual(Span(12, 4).text(), "3")
        self.assertEqual(Span(0, 4).text(), "0")
        self.assertEqual(Span(-12).text(), "-12")

    def test_of_text(self):
        for over, under in PAIRS:
            span = Span(over, under)
            again = Span.of_text(span.text())
            self.assertIs(type(again), Span)
            self.assertEqual((again.over, again.under), (span.over, span.under))
        self.assertEqual(Span.of_text(text="10/7"), Span(10, 7))

    def test_texts_that_no_span_has(self):
        wrong = [
            "", "-", "/", "1/", "/2", "-0", "00", "01", "-01", "+1", " 1", "1 ", "1\n", "--1", "1-", "1.0", "1_0",
            "1/1", "0/1", "0/2", "-0/3", "6/4", "7/-3", "-7/-3", "1/0", "0/0", "1/02", "1/2/3", "1 /2", "1/ 2",
            "a", "\u0663", "\u00b2", "1/\u0663", "1//2", "-/2",
        ]
        for text in wrong:
            with self.assertRaises(BadText, msg=text) as caught:
                Span.of_text(text)
            self.assertEqual(caught.exception.line, 1)

    def test_no_texts(self):
        for thing in [None, True, 1, ["1"], Span(1), {}, PROGRAM]:
            with self.assertRaises(BadText) as caught:
                Span.of_text(thing)
            self.assertEqual(caught.exception.line, 1)

    def test_long_texts(self):
        self.assertEqual(Span.of_text("9" * 40 + "/" + "1" + "0" * 39), Span(10 ** 40 - 1, 10 ** 39))
        self.assertEqual(Span.of_text("1" + "0" * 5999), Span(10 ** 5999))
        with self.assertRaises(BadText):
            Span.of_text("9" * 5999 + "x")


class FunctionsTest(unittest.TestCase):
    def test_floored(self):
        for over, under in PAIRS:
            result = floored(Span(over, under))
            self.assertIs(type(result), int)
            self.assertEqual(result, floor(Fraction(over, under)))
        self.assertEqual(floored(-5), -5)
        self.assertEqual(floored(number=Span(-1, 2)), -1)

    def test_plain(self):
        self.assertEqual(plain(7), 7)
        self.assertIs(type(plain(Span(8, 4))), int)
        self.assertEqual(plain(Span(8, 4)), 2)
        self.assertIs(type(plain(Span(1, 2))), Span)
        self.assertEqual(plain(number=Span(1, 2)), Span(1, 2))

    def test_no_numbers(self):
        for thing in NO_NUMBERS:
            for function in (floored, plain):
                with self.assertRaises(BadPart) as caught:
                    function(thing)
                self.assertIs(caught.exception.part, thing)


if __name__ == "__main__":
    unittest.main()
