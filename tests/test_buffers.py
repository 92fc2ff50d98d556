import random
import unittest
from fractions import Fraction

from bandheld.amounts import ONE, ZERO
from bandheld.buffers import Buffer
from bandheld.errors import Short
from tests.helpers import check_raises, fraction, pair, random_amount


def state(buffer):
    return (buffer.held, buffer.fullest, buffer.size)


class Taking(unittest.TestCase):
    def test_below_at_and_above_what_fits(self):
        buffer = Buffer((7, 2))
        self.assertEqual(state(buffer), (ZERO, ZERO, (7, 2)))
        self.assertEqual(buffer.take_in((2, 1)), ZERO)
        self.assertEqual(state(buffer), ((2, 1), (2, 1), (7, 2)))
        self.assertEqual(buffer.take_in(ZERO), ZERO)
        self.assertEqual(buffer.take_in((3, 2)), ZERO)
        self.assertEqual(state(buffer), ((7, 2), (7, 2), (7, 2)))
        self.assertEqual(buffer.take_in((1, 3)), (1, 3))
        self.assertEqual(buffer.take_in(ZERO), ZERO)
        self.assertEqual(state(buffer), ((7, 2), (7, 2), (7, 2)))
        other = Buffer(size=(7, 2))
        other.take_in((3, 1))
        self.assertEqual(other.take_in(water=ONE), (1, 2))
        self.assertEqual(state(other), ((7, 2), (7, 2), (7, 2)))

    def test_size_zero(self):
        buffer = Buffer(ZERO)
        self.assertEqual([buffer.take_in(water) for water in [ZERO, ONE, (5, 2)]], [ZERO, ONE, (5, 2)])
        self.assertIs(buffer.give(ZERO), None)
        self.assertIs(buffer.set_to(ZERO), None)
        check_raises(self, Short, {"amount": (1, 9)}, buffer.give, (1, 9))
        self.assertEqual(state(buffer), (ZERO, ZERO, ZERO))

    def test_largest(self):
        buffer = Buffer((10 ** 6, 1))
        self.assertEqual(buffer.take_in((10 ** 6 + 1, 1)), ONE)
        self.assertEqual(buffer.held, (10 ** 6, 1))


class Giving(unittest.TestCase):
    def test_all_nothing_and_some(self):
        buffer = Buffer((9, 1))
        buffer.take_in((5, 1))
        self.assertIs(buffer.give(ZERO), None)
        self.assertEqual(state(buffer), ((5, 1), (5, 1), (9, 1)))
        self.assertIs(buffer.give(water=(3, 2)), None)
        self.assertEqual(state(buffer), ((7, 2), (5, 1), (9, 1)))
        buffer.give((7, 2))
        self.assertEqual(state(buffer), (ZERO, (5, 1), (9, 1)))

    def test_short(self):
        buffer = Buffer((9, 1))
        buffer.take_in((5, 1))
        for water in [(6, 1), (51, 10), (10 ** 30, 1)]:
            check_raises(self, Short, {"amount": water}, buffer.give, water)
            self.assertEqual(state(buffer), ((5, 1), (5, 1), (9, 1)))
        check_raises(self, Short, {"amount": ONE}, Buffer((9, 1)).give, ONE)


class Fullest(unittest.TestCase):
    def test_behind_each_call(self):
        buffer = Buffer((9, 1))
        told = []
        for call, water in [
            (buffer.take_in, (4, 1)), (buffer.give, (3, 1)), (buffer.take_in, (2, 1)), (buffer.set_to, (8, 1)),
            (buffer.set_to, (1, 1)), (buffer.take_in, (7, 1)), (buffer.take_in, (5, 1)), (buffer.set_to, ZERO),
        ]:
            call(water)
            told.append((buffer.held[0], buffer.fullest[0]))
        self.assertEqual(told, [(4, 4), (1, 4), (3, 4), (8, 8), (1, 8), (8, 8), (9, 9), (0, 9)])
        buffer.set_to(water=(5, 2))
        self.assertEqual(state(buffer), ((5, 2), (9, 1), (9, 1)))
        full = Buffer((9, 1))
        full.set_to((9, 1))
        self.assertEqual((full.fullest, full.take_in(ONE)), ((9, 1), ONE))

    def test_properties(self):
        buffer = Buffer((9, 1))
        for name in ["held", "fullest"]:
            self.assertIsInstance(vars(Buffer)[name], property)
            with self.assertRaises(AttributeError):
                setattr(buffer, name, ONE)
        self.assertEqual(state(buffer), (ZERO, ZERO, (9, 1)))


class Copies(unittest.TestCase):
    def test_copy(self):
        buffer = Buffer((9, 1))
        buffer.take_in((5, 1))
        buffer.give((2, 1))
        other = buffer.copy()
        self.assertIs(other.__class__, Buffer)
        self.assertEqual(state(other), ((3, 1), (5, 1), (9, 1)))
        other.take_in((10, 1))
        self.assertEqual(state(buffer), ((3, 1), (5, 1), (9, 1)))
        buffer.give((3, 1))
        self.assertEqual(state(other), ((9, 1), (9, 1), (9, 1)))


class Any(unittest.TestCase):
    def test_any(self):
        rng = random.Random(72)
        for _ in range(60):
            size = random_amount(rng, 9)
            buffer, held, fullest = Buffer(size), Fraction(0), Fraction(0)
            for _ in range(25):
                water = random_amount(rng, 9)
                word = rng.choice(["take_in", "take_in", "give", "set_to"])
                if word == "take_in":
                    spilled = max(held + fraction(water) - fraction(size), Fraction(0))
                    held = min(held + fraction(water), fraction(size))
                    self.assertEqual(buffer.take_in(water), pair(spilled))
                elif word == "set_to":
                    held = min(fraction(water), fraction(size))
                    buffer.set_to(pair(held))
                elif fraction(water) > held:
                    check_raises(self, Short, {"amount": water}, buffer.give, water)
                else:
                    buffer.give(water)
                    held -= fraction(water)
                fullest = max(held, fullest)
                self.assertEqual(state(buffer), (pair(held), pair(fullest), size))
                buffer = rng.choice([buffer, buffer.copy()])


if __name__ == "__main__":
    unittest.main()
