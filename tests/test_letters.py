import random
import unittest

from bandheld.amounts import ONE, TOP, ZERO
from bandheld.errors import NoSuchLetter
from bandheld.letters import Bag
from tests.helpers import HOUSE, ODD_VALUES, check_raises

LEVEL = ("level", "a", "f", "")
MANNER = ("manner", "f", "a", "f")
BIT = ("bit", "a", "f", "f")


def bag_of(*letters):
    bag = Bag()
    for channel, tick, value in letters:
        bag.put(channel, tick, value)
    return bag


def example():
    return bag_of((LEVEL, 4, ONE), (MANNER, 2, ()), (BIT, 5, True), (LEVEL, 3, TOP))


EXAMPLE = [(0, LEVEL, 4, ONE), (1, MANNER, 2, ()), (2, BIT, 5, True), (3, LEVEL, 3, TOP)]


class Numbers(unittest.TestCase):
    def test_put(self):
        bag = Bag()
        self.assertEqual([bag.put(LEVEL, tick, ONE) for tick in [3, 3, 1, -4]], [0, 1, 2, 3])
        self.assertEqual(bag.put(value=ZERO, tick=0, channel=MANNER), 4)
        self.assertEqual(example().letters(), EXAMPLE)

    def test_never_used_again(self):
        bag = example()
        for number in [3, 0, 2, 1]:
            bag.take(number)
        self.assertEqual((len(bag), bag.put(LEVEL, 1, ONE)), (0, 4))
        bag.take(4)
        self.assertEqual((bag.put(LEVEL, 1, ONE), bag.double(5), bag.put(BIT, 0, False)), (5, 6, 7))

    def test_take(self):
        bag = example()
        self.assertEqual(bag.take(2), EXAMPLE[2])
        self.assertIs(bag.take(number=0).__class__, tuple)
        self.assertEqual(bag.letters(), [EXAMPLE[1], EXAMPLE[3]])
        check_raises(self, NoSuchLetter, {"number": 2}, bag.take, 2)
        check_raises(self, NoSuchLetter, {"number": 0}, bag.double, 0)
        self.assertEqual(bag.letters(), [EXAMPLE[1], EXAMPLE[3]])

    def test_double(self):
        bag = example()
        self.assertEqual((bag.double(1), bag.double(number=4), bag.double(0)), (4, 5, 6))
        self.assertEqual(bag.letters(), EXAMPLE + [(4, MANNER, 2, ()), (5, MANNER, 2, ()), (6, LEVEL, 4, ONE)])
        self.assertEqual(bag.take(5), (5, MANNER, 2, ()))

    def test_no_such_letter(self):
        for value in ODD_VALUES + [-1, 4, 10 ** 9, (0, 1), EXAMPLE[0], "0", LEVEL, [0]]:
            bag = example()
            check_raises(self, NoSuchLetter, {"number": value}, bag.take, value)
            check_raises(self, NoSuchLetter, {"number": value}, bag.double, value)
            self.assertEqual(bag, example())
            self.assertIs(value in bag, False, value)
        check_raises(self, NoSuchLetter, {"number": 0}, Bag().take, 0)

    def test_contains(self):
        bag = example()
        bag.take(1)
        self.assertEqual([number in bag for number in range(5)], [True, False, True, True, False])
        self.assertIs(True in bag, False)
        bag.double(0)
        self.assertIs(4 in bag, True)


class Lists(unittest.TestCase):
    def test_older(self):
        bag = example()
        self.assertEqual(bag.older(1), [])
        self.assertEqual(bag.older(2), [EXAMPLE[1]])
        self.assertEqual(bag.older(3), [EXAMPLE[1], EXAMPLE[3]])
        self.assertEqual(bag.older(tick=4), [EXAMPLE[0], EXAMPLE[1], EXAMPLE[3]])
        self.assertEqual((bag.older(5), bag.older(99)), (EXAMPLE, EXAMPLE))
        self.assertEqual(bag_of((LEVEL, -2, ONE), (LEVEL, -1, ONE)).older(-2), [(0, LEVEL, -2, ONE)])

    def test_new_lists(self):
        bag = example()
        bag.letters().clear()
        bag.older(9).pop()
        self.assertEqual((bag.letters(), bag.older(9), len(bag)), (EXAMPLE, EXAMPLE, 4))
        self.assertEqual((Bag().letters(), Bag().older(3)), ([], []))

    def test_many(self):
        bag = Bag()
        for tick in range(4000):
            self.assertEqual(bag.put(LEVEL, tick, ONE), tick)
        self.assertEqual((len(bag), len(bag.older(9)), bag.letters()[-1]), (4000, 10, (3999, LEVEL, 3999, ONE)))


class Copies(unittest.TestCase):
    def test_copy(self):
        bag = example()
        bag.take(3)
        other = bag.copy()
        self.assertIs(other.__class__, Bag)
        self.assertEqual(other, bag)
        self.assertEqual((other.put(LEVEL, 9, ZERO), other.take(0)), (4, EXAMPLE[0]))
        self.assertEqual(bag.letters(), EXAMPLE[:3])
        bag.take(1)
        self.assertIs(1 in other, True)
        self.assertEqual((bag.put(BIT, 1, False), bag.letters()[-1]), (4, (4, BIT, 1, False)))
        self.assertEqual(other.letters()[-1], (4, LEVEL, 9, ZERO))
        self.assertEqual(other.letters(), sorted(other.letters()))

    def test_equal(self):
        bag = example()
        self.assertTrue(bag == example())
        self.assertFalse(bag != example())
        self.assertTrue(Bag() == Bag())
        later = example()
        later.take(later.put(LEVEL, 1, ONE))
        self.assertEqual(later.letters(), bag.letters())
        fewer = example()
        fewer.take(2)
        for other in [
            later, fewer, Bag(), bag_of(*[letter[1:] for letter in EXAMPLE[:3]], (LEVEL, 3, ONE)),
            HOUSE, None, 4, "Bag", bag.letters(),
        ]:
            self.assertFalse(bag == other)
            self.assertFalse(other == bag)
            self.assertTrue(bag != other)
        emptied = bag_of((LEVEL, 1, ONE))
        emptied.take(0)
        self.assertFalse(emptied == Bag())
        self.assertTrue(emptied == emptied.copy())

    def test_len_and_truth(self):
        self.assertEqual((len(Bag()), bool(Bag())), (0, True))
        self.assertEqual((len(example()), bool(example())), (4, True))


class Any(unittest.TestCase):
    def test_any(self):
        rng = random.Random(67)
        for _ in range(40):
            bag, told, coming = Bag(), {}, 0
            for _ in range(60):
                number = rng.randint(0, 20)
                deed = rng.choice(["put", "put", "take", "double"])
                if deed == "put":
                    letter = (LEVEL, rng.randint(-3, 9), (rng.randint(0, 9), 1))
                    self.assertEqual(bag.put(*letter), coming)
                    told[coming] = (coming,) + letter
                    coming += 1
                elif number not in told:
                    check_raises(self, NoSuchLetter, {"number": number}, getattr(bag, deed), number)
                elif deed == "take":
                    self.assertEqual(bag.take(number), told.pop(number))
                else:
                    self.assertEqual(bag.double(number), coming)
                    told[coming] = (coming,) + told[number][1:]
                    coming += 1
                self.assertEqual(bag.letters(), [told[at] for at in sorted(told)])
                self.assertEqual(bag.older(4), [letter for letter in bag.letters() if letter[2] <= 4])
                self.assertEqual([at in bag for at in range(22)], [at in told for at in range(22)])
                bag = rng.choice([bag, bag.copy()])


if __name__ == "__main__":
    unittest.main()
