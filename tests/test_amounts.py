import random
import unittest
from fractions import Fraction

from bandheld.amounts import (
    ONE,
    TOP,
    ZERO,
    amount,
    amount_text,
    compare,
    is_amount,
    is_small,
    largest,
    minus,
    over,
    plus,
    read_amount,
    smallest,
    times,
)
from bandheld.errors import BadAmount, BandError, Short
from tests.helpers import ODD_VALUES, check_raises, fraction, pair

BIG = 10 ** 39 + 9
NOT_NUMBERS = [value for value in ODD_VALUES if not isinstance(value, int) or isinstance(value, bool)]


def some_amounts():
    rng = random.Random(3)
    found = [ZERO, ONE, TOP, (BIG, 7), (7, BIG), (1, 2), (1, 3), (5, 6), (5, 3), (5, 2)]
    for _ in range(40):
        found.append(pair(Fraction(rng.randint(0, 10 ** rng.randint(1, 40)), rng.randint(1, 10 ** rng.randint(1, 40)))))
    return found


class Making(unittest.TestCase):
    def test_constants(self):
        self.assertEqual((ZERO, ONE, TOP), ((0, 1), (1, 1), (1000, 1)))

    def test_lowest_terms(self):
        self.assertEqual(amount(4), (4, 1))
        self.assertEqual(amount(4, 2), (2, 1))
        self.assertEqual(amount(10, 4), (5, 2))
        self.assertEqual(amount(0, 7), (0, 1))
        self.assertEqual(amount(0), ZERO)
        self.assertEqual(amount(1000), TOP)
        self.assertEqual(amount(bottom=6, top=4), (2, 3))
        self.assertEqual(amount(3 * BIG, 6 * BIG), (1, 2))
        self.assertIsInstance(amount(4, 2), tuple)

    def test_wrong_top(self):
        for top in NOT_NUMBERS + [-1, -BIG]:
            for bottom in [1, 0, None]:
                check_raises(self, BadAmount, {"value": top}, amount, top, bottom)
            check_raises(self, BadAmount, {"value": top}, amount, top)

    def test_wrong_bottom(self):
        for bottom in NOT_NUMBERS + [0, -1]:
            check_raises(self, BadAmount, {"value": bottom}, amount, 0, bottom)
            check_raises(self, BadAmount, {"value": bottom}, amount, top=5, bottom=bottom)
        with self.assertRaises(BandError):
            amount(1, 0)


class Kinds(unittest.TestCase):
    def test_amounts(self):
        for value in some_amounts() + [(BIG ** 200, 7)]:
            self.assertIs(is_amount(value), True)
        for value in ODD_VALUES + [7, list(ONE), (4, 2), (0, 3), (-4, 1), (4, -1), ((4, 1), 1), (4, (1, 1))]:
            self.assertIs(is_amount(value), False, value)
        self.assertIs(is_amount(value=ONE), True)

    def test_small(self):
        for value in [ZERO, ONE, TOP, (1, 12), (11999, 12), (5, 2), (1, 11)]:
            self.assertIs(is_small(value), True)
        for value in ODD_VALUES + [(1, 13), (1001, 1), (12001, 12), (2001, 2), (BIG, 1), (1, BIG), 7, (24, 24)]:
            self.assertIs(is_small(value), False)
        self.assertIs(is_small(value=TOP), True)


class Reckoning(unittest.TestCase):
    def test_plus(self):
        self.assertEqual(plus(), ZERO)
        self.assertEqual(plus((5, 2)), (5, 2))
        self.assertEqual(plus((1, 2), (1, 3), (1, 6)), ONE)
        self.assertEqual(plus((1, 6), (1, 10)), (4, 15))
        values = some_amounts()
        self.assertEqual(plus(*values), pair(sum([fraction(value) for value in values])))

    def test_pairs(self):
        for first in some_amounts():
            for second in some_amounts():
                left, right = fraction(first), fraction(second)
                self.assertEqual(plus(first, second), pair(left + right))
                self.assertEqual(times(first, second), pair(left * right))
                self.assertEqual(compare(first, second), (left > right) - (left < right))
                self.assertEqual(smallest(first, second), pair(min(left, right)))
                self.assertEqual(largest(first, second), pair(max(left, right)))
                if left >= right:
                    self.assertEqual(minus(first, second), pair(left - right))
                else:
                    check_raises(self, Short, {"amount": first}, minus, first, second)
                if second == ZERO:
                    check_raises(self, BadAmount, {"value": ZERO}, over, first, second)
                else:
                    self.assertEqual(over(first, second), pair(left / right))

    def test_by_name(self):
        self.assertEqual(minus(first=(5, 2), second=(1, 2)), (2, 1))
        self.assertEqual(times(second=(5, 2), first=(2, 1)), (5, 1))
        self.assertEqual(over(second=(5, 2), first=(5, 1)), (2, 1))
        self.assertEqual(compare(second=(5, 2), first=(2, 1)), -1)
        self.assertEqual(smallest(first=ONE), ONE)
        self.assertEqual(largest(first=ONE), ONE)

    def test_several(self):
        values = [(5, 2), (7, 3), (9, 4), (11, 5), (5, 2)]
        self.assertEqual(smallest(*values), (11, 5))
        self.assertEqual(largest(*values), (5, 2))
        self.assertEqual(smallest(TOP), TOP)
        self.assertEqual(largest(ZERO), ZERO)

    def test_short_is_told_with_the_first(self):
        check_raises(self, Short, {"amount": (1, 3)}, minus, (1, 3), (1, 2))
        self.assertEqual(minus((1, 3), (1, 3)), ZERO)

    def test_large_returned_values(self):
        value = (BIG, BIG + 2)
        for _ in range(9):
            value = times(value, value)
        self.assertEqual(value, (BIG ** 512, (BIG + 2) ** 512))
        self.assertEqual(over(value, value), ONE)
        self.assertEqual(minus(plus(value, ONE), value), ONE)


class Texts(unittest.TestCase):
    def test_written(self):
        for value, text in [((4, 1), "4"), ((5, 2), "5/2"), (ZERO, "0"), (TOP, "1000"), ((1, 12), "1/12")]:
            self.assertEqual(amount_text(value), text)
            self.assertEqual(read_amount(text), value)
        self.assertEqual(amount_text(value=(5, 2)), "5/2")
        self.assertEqual(read_amount(text="5/2"), (5, 2))

    def test_back(self):
        for value in some_amounts():
            self.assertEqual(read_amount(amount_text(value)), value)

    def test_no_text_of_an_amount(self):
        wrong = [
            "", "/", "5/", "/5", "05", "00", "5/02", "05/2", "+5", "-5", "5/-2", "-0", " 5", "5 ", "5 /2", "5/ 2",
            "5/1", "0/1", "0/2", "4/2", "6/4", "5/0", "0/0", "5/2/3", "5//2", "5.5", "1e3", "1_0", "5\n", "\n5",
            "x", "0x1", "five", "\u0665", "\u00b2", "5/\u00b2",
        ]
        for text in wrong + [value for value in ODD_VALUES if value not in ["4", "5/2"]] + [5, (5, 2)]:
            self.assertIsNone(read_amount(text), text)

    def test_long_numbers(self):
        long = "1" + "0" * 399
        self.assertEqual(read_amount(long), (10 ** 399, 1))
        self.assertEqual(read_amount("7/" + long), (7, 10 ** 399))
        self.assertEqual(read_amount("9" * 400 + "/" + long), (10 ** 400 - 1, 10 ** 399))
        self.assertIsNone(read_amount(long + "0"))
        self.assertIsNone(read_amount("7/" + long + "0"))
        self.assertIsNone(read_amount(long + "1/" + long))
        self.assertIsNone(read_amount("1" + "0" * 5000))

    def test_very_long_numbers_are_written(self):
        self.assertEqual(amount_text((10 ** 9000, 1)), "1" + "0" * 9000)
        self.assertEqual(amount_text((7, 10 ** 9000 + 1)), "7/1" + "0" * 8999 + "1")
        self.assertEqual(amount_text((10 ** 60, 1)), "1" + "0" * 60)
        self.assertEqual(amount_text((10 ** 60 - 1, 1)), "9" * 60)


if __name__ == "__main__":
    unittest.main()
