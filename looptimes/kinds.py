"""Tests of any objects, and the reading of numerals."""

LETTERS = "abcdefghijklmnopqrstuvwxyz"
DIGITS = "0123456789"


def is_integer(thing):
    """Tell whether it is an integer; True and False are none."""
    return isinstance(thing, int) and not isinstance(thing, bool)


def is_between(thing, low, high):
    """Tell whether it is an integer from low to high."""
    return is_integer(thing) and low <= thing <= high


def is_list(thing):
    """Tell whether it is a list, or a tuple, which means the same."""
    return isinstance(thing, (list, tuple))


def is_word(thing):
    """Tell whether it is a string of one to eight letters from a to z."""
    return isinstance(thing, str) and 1 <= len(thing) <= 8 and all([letter in LETTERS for letter in thing])


def is_numeral(text):
    """Tell whether the string consists of digits, without leading zeros."""
    if text == "" or not all([digit in DIGITS for digit in text]):
        return False
    return text == "0" or not text.startswith("0")


def numeral_value(text):
    """Return the integer of a numeral."""
    value = 0
    # Digit by digit, since Python's own conversion refuses numerals of some thousand digits.
    for digit in text:
        value = value * 10 + DIGITS.index(digit)
    return value
