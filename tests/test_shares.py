import random
import unittest
from fractions import Fraction

from bandheld.amounts import ONE, TOP, ZERO
from bandheld.shares import cut_manner, is_manner, share, total
from tests.helpers import ODD_VALUES, fraction, pair, plain_share, plain_total, random_amount, random_manner


class Manners(unittest.TestCase):
    def test_manners(self):
        large = (10 ** 300 + 1, 10 ** 299)
        for value in [(), (ZERO, ZERO), (ZERO, TOP), ((5, 2), (5, 2)), ((1, 3), (1, 2)), (ONE, large)]:
            self.assertIs(is_manner(value), True)
        self.assertIs(is_manner(value=()), True)

    def test_no_manners(self):
        wrong = [[ZERO, TOP], ((1, 2), (1, 3)), (ZERO, [1, 1]), (ZERO, 1), (ZERO,), (ZERO, ONE, TOP), ZERO, "()", 0]
        for value in ODD_VALUES + wrong:
            self.assertIs(is_manner(value), False, value)


class Shares(unittest.TestCase):
    def test_gone(self):
        self.assertEqual(share((), 12, TOP), ZERO)

    def test_between_the_wishes(self):
        manner = ((1, 2), (5, 2))
        for level, told in [(ZERO, (1, 2)), ((1, 4), (1, 2)), ((1, 3), (2, 3)), ((5, 4), (5, 2)), (TOP, (5, 2))]:
            self.assertEqual(share(manner, 2, level), told)
        self.assertEqual(share(manner, 1, (2, 1)), (2, 1))
        self.assertEqual(share(manner, 12, (1, 24)), (1, 2))
        self.assertEqual(share(manner, 12, (1, 23)), (12, 23))

    def test_equal_wishes(self):
        for level in [ZERO, ONE, TOP]:
            self.assertEqual(share(((5, 2), (5, 2)), 3, level), (5, 2))

    def test_by_name(self):
        self.assertEqual(share(level=ONE, weight=2, manner=(ZERO, TOP)), (2, 1))

    def test_any(self):
        rng = random.Random(5)
        for _ in range(300):
            manner, weight, level = random_manner(rng), rng.randint(1, 12), random_amount(rng)
            self.assertEqual(share(manner, weight, level), pair(plain_share(manner, weight, fraction(level))))


class Cuts(unittest.TestCase):
    def test_gone_stays_gone(self):
        self.assertEqual(cut_manner((), ONE, TOP), ())

    def test_cut(self):
        for manner, least, cap, told in [
            (((1, 2), (3, 1)), (2, 1), (5, 1), ((1, 2), (3, 1))),
            (((3, 1), (4, 1)), (2, 1), (5, 1), ((2, 1), (4, 1))),
            (((3, 1), (9, 1)), (2, 1), (5, 1), ((2, 1), (5, 1))),
            (((9, 1), (1, 1)), (2, 1), (5, 1), ((1, 1), (1, 1))),
            (((9, 1), (7, 1)), (2, 1), (5, 1), ((2, 1), (5, 1))),
            (((9, 1), (0, 1)), (2, 1), (5, 1), (ZERO, ZERO)),
            ((ZERO, TOP), ZERO, ZERO, (ZERO, ZERO)),
        ]:
            self.assertEqual(cut_manner(manner, least, cap), told)
        self.assertEqual(cut_manner(cap=(5, 1), least=(2, 1), manner=((3, 1), (9, 1))), ((2, 1), (5, 1)))

    def test_cut_again(self):
        rng = random.Random(6)
        for _ in range(300):
            first, second = random_amount(rng), random_amount(rng)
            least, cap = sorted([random_amount(rng), random_amount(rng)], key=fraction)
            cut = cut_manner((first, second), least, cap)
            self.assertIs(is_manner(cut), True)
            most = min(fraction(second), fraction(cap))
            self.assertEqual(cut, (pair(min(fraction(first), fraction(least), most)), pair(most)))
            self.assertEqual(cut_manner(cut, least, cap), cut)


class Totals(unittest.TestCase):
    def test_none(self):
        self.assertEqual(total([], TOP), ZERO)
        self.assertEqual(total([((), 3, TOP), ((), 1, ZERO)], TOP), ZERO)

    def test_bounds(self):
        wishes = [((ZERO, TOP), 2, (3, 1)), ((ONE, (5, 2)), 1, TOP)]
        for level, told in [(ZERO, ONE), (ONE, (3, 1)), ((2, 1), (6, 1)), ((3, 1), (17, 2)), (TOP, (17, 2))]:
            self.assertEqual(total(wishes, level), told)
        self.assertEqual(total(level=ONE, wishes=tuple(wishes)), (3, 1))
        self.assertEqual(total([((ZERO, (5000, 1)), 12, (1001, 1))], (2000, 1)), (5000, 1))
        self.assertEqual(total([((ZERO, (90000, 1)), 12, (1001, 1))], (2000, 1)), (12012, 1))

    def test_any(self):
        rng = random.Random(7)
        for _ in range(200):
            wishes = [(random_manner(rng), rng.randint(1, 12), random_amount(rng)) for _ in range(rng.randint(0, 6))]
            before = list(wishes)
            level = Fraction(rng.randint(0, 60), 7)
            self.assertEqual(total(wishes, pair(level)), pair(plain_total(wishes, level)))
            self.assertEqual(wishes, before)


if __name__ == "__main__":
    unittest.main()
