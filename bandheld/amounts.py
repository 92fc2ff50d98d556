"""Amounts: exact fractions of at least 0, as pairs in lowest terms."""

from math import gcd

from bandheld.basics import is_number, number_text, read_number
from bandheld.errors import BadAmount, Short

ZERO = (0, 1)
ONE = (1, 1)
TOP = (1000, 1)
SMALL_BOTTOM = 12
TEXT_DIGITS = 400


def amount(top, bottom=1):
    """The amount top / bottom."""
    if not is_number(top) or top < 0:
        raise BadAmount(top)
    if not is_number(bottom) or bottom < 1:
        raise BadAmount(bottom)
    common = gcd(top, bottom)
    return (top // common, bottom // common)


def is_amount(value):
    """Whether any value is an amount."""
    if not isinstance(value, tuple) or len(value) != 2:
        return False
    top, bottom = value
    if not is_number(top) or not is_number(bottom):
        return False
    return top >= 0 and bottom >= 1 and gcd(top, bottom) == 1


def is_small(value):
    """Whether any value is a small amount."""
    return is_amount(value) and value[1] <= SMALL_BOTTOM and compare(value, TOP) <= 0


def plus(*amounts):
    """The sum, ZERO of none."""
    found = ZERO
    for further in amounts:
        found = _added(found, further)
    return found


def minus(first, second):
    """The difference of two amounts, the second of which is not the greater one."""
    if compare(first, second) < 0:
        raise Short(first)
    return _added(first, (-second[0], second[1]))


def _added(first, second):
    """The sum of two fractions, the second of which may be below zero."""
    # Common divisors are taken out of the bottoms ahead of the sum: a long
    # sum of large fractions would otherwise spend all its time with gcd.
    top, bottom = first
    other_top, other_bottom = second
    common = gcd(bottom, other_bottom)
    rest = bottom // common
    new_top = top * (other_bottom // common) + other_top * rest
    shared = gcd(new_top, common)
    return (new_top // shared, rest * (other_bottom // shared))


def times(first, second):
    """The product."""
    return _product(first[0], first[1], second[0], second[1])


def over(first, second):
    """The quotient."""
    if second == ZERO:
        raise BadAmount(second)
    return _product(first[0], first[1], second[1], second[0])


def _product(top, bottom, other_top, other_bottom):
    """The product of two fractions in lowest terms."""
    left = gcd(top, other_bottom)
    right = gcd(other_top, bottom)
    return ((top // left) * (other_top // right), (bottom // right) * (other_bottom // left))


def compare(first, second):
    """-1 if the first is the smaller one, 1 if it is the greater one, 0 if they are equal."""
    left = first[0] * second[1]
    right = second[0] * first[1]
    if left < right:
        return -1
    if left > right:
        return 1
    return 0


def smallest(first, *others):
    """The smallest of one or more amounts."""
    found = first
    for other in others:
        if compare(other, found) < 0:
            found = other
    return found


def largest(first, *others):
    """The largest of one or more amounts."""
    found = first
    for other in others:
        if compare(other, found) > 0:
            found = other
    return found


def amount_text(value):
    """The text of an amount."""
    top, bottom = value
    if bottom == 1:
        return number_text(top)
    return f"{number_text(top)}/{number_text(bottom)}"


def read_amount(text):
    """The amount that any value is the text of, or None."""
    if not isinstance(text, str):
        return None
    top_text, sign, bottom_text = text.partition("/")
    top = read_number(top_text, TEXT_DIGITS)
    if sign == "":
        bottom = 1
    else:
        bottom = read_number(bottom_text, TEXT_DIGITS)
    # A bottom of 1 is not written, so it stands in no text behind the sign.
    if top is None or bottom is None or (sign != "" and bottom < 2):
        return None
    if not is_amount((top, bottom)):
        return None
    return (top, bottom)
