"""Exact fractions, and numbers, which are integers or such fractions."""

from math import gcd

from looptimes.errors import BadPart, BadText
from looptimes.kinds import is_integer, is_numeral, numeral_value


class Span:
    """An exact fraction in lowest terms: `over` divided by `under`, which is above 0."""

    def __init__(self, over, under=1):
        if not is_integer(over):
            raise BadPart(over)
        if not is_integer(under) or under == 0:
            raise BadPart(under)
        shared = gcd(over, under)
        if under < 0:
            shared = -shared
        self.over = over // shared
        self.under = under // shared

    def __add__(self, other):
        return _sum(self, other)

    def __radd__(self, other):
        return _sum(other, self)

    def __sub__(self, other):
        return _difference(self, other)

    def __rsub__(self, other):
        return _difference(other, self)

    def __mul__(self, other):
        return _product(self, other)

    def __rmul__(self, other):
        return _product(other, self)

    def __floordiv__(self, other):
        return _quotient(self, other)

    def __rfloordiv__(self, other):
        return _quotient(other, self)

    def __mod__(self, other):
        return _remainder(self, other)

    def __rmod__(self, other):
        return _remainder(other, self)

    def __neg__(self):
        return Span(-self.over, self.under)

    def __abs__(self):
        return Span(abs(self.over), self.under)

    def __eq__(self, other):
        if isinstance(other, Span):
            return self.over == other.over and self.under == other.under
        return is_integer(other) and self.under == 1 and self.over == other

    def __lt__(self, other):
        return _gap(self, other) < 0

    def __le__(self, other):
        return _gap(self, other) <= 0

    def __gt__(self, other):
        return _gap(self, other) > 0

    def __ge__(self, other):
        return _gap(self, other) >= 0

    def text(self):
        """Return the integer as in Python, or OVER/UNDER."""
        if self.under == 1:
            return str(self.over)
        return f"{self.over}/{self.under}"

    @staticmethod
    def of_text(text):
        """Return the Span with this text."""
        if not isinstance(text, str):
            raise BadText(1)
        over, slash, under = text.removeprefix("-").partition("/")
        if not is_numeral(over) or (slash == "/" and not is_numeral(under)):
            raise BadText(1)
        negative = text.startswith("-")
        if (negative and over == "0") or under in ("0", "1"):
            raise BadText(1)
        value = numeral_value(over)
        below = numeral_value(under) if slash == "/" else 1
        span = Span(-value if negative else value, below)
        if span.under != below:
            raise BadText(1)
        return span


def is_number(thing):
    """Tell whether it is an integer or a Span."""
    return isinstance(thing, Span) or is_integer(thing)


def floored(number):
    """Return the greatest integer that is not greater than the number."""
    over, under = _halves(number)
    return over // under


def plain(number):
    """Return the integer if the number is whole, otherwise the Span."""
    over, under = _halves(number)
    if under == 1:
        return over
    return number


def _halves(number):
    if isinstance(number, Span):
        return number.over, number.under
    if is_integer(number):
        return number, 1
    raise BadPart(number)


def _sum(one, two):
    over, under = _halves(one)
    other_over, other_under = _halves(two)
    return Span(over * other_under + other_over * under, under * other_under)


def _difference(one, two):
    over, under = _halves(one)
    other_over, other_under = _halves(two)
    return Span(over * other_under - other_over * under, under * other_under)


def _product(one, two):
    over, under = _halves(one)
    other_over, other_under = _halves(two)
    return Span(over * other_over, under * other_under)


def _quotient(one, two):
    over, under = _halves(one)
    other_over, other_under = _halves(two)
    if other_over == 0:
        raise BadPart(two)
    return (over * other_under) // (under * other_over)


def _remainder(one, two):
    many = _quotient(one, two)
    over, under = _halves(one)
    other_over, other_under = _halves(two)
    return Span(over * other_under - many * other_over * under, under * other_under)


def _gap(one, two):
    over, under = _halves(one)
    other_over, other_under = _halves(two)
    return over * other_under - other_over * under
