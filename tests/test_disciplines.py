import copy
import random
import unittest
from fractions import Fraction

from bandheld.amounts import ONE, ZERO
from bandheld.disciplines import own_sends, rank_sends, spare_sends
from tests.helpers import fraction, pair, random_amount
from tests.second import plain_extras

FOUR = [(3, 1), (3, 1), (3, 1), (3, 1)]
LIMITS = [ZERO, (2, 1), (3, 1), (7, 2)]


class Own(unittest.TestCase):
    def test_limits_zero_below_at_and_above(self):
        self.assertEqual(own_sends(FOUR, LIMITS), [ZERO, (2, 1), (3, 1), (3, 1)])
        self.assertEqual(own_sends(limits=[ONE], allotments=[ZERO]), [ZERO])
        self.assertEqual(own_sends([], []), [])
        self.assertEqual(own_sends(tuple(FOUR), tuple(LIMITS)), own_sends(FOUR, LIMITS))


class Ranks(unittest.TestCase):
    def test_in_order(self):
        self.assertEqual(rank_sends((5, 1), LIMITS), [ZERO, (2, 1), (3, 1), ZERO])
        self.assertEqual(rank_sends((11, 2), LIMITS), [ZERO, (2, 1), (3, 1), (1, 2)])
        self.assertEqual(rank_sends((17, 2), LIMITS), LIMITS)
        self.assertEqual(rank_sends((100, 1), LIMITS), LIMITS)
        self.assertEqual(rank_sends((1, 2), [ONE, ONE]), [(1, 2), ZERO])
        self.assertEqual(rank_sends((3, 1), [ONE, (2, 1), (1, 7)]), [ONE, (2, 1), ZERO])
        self.assertEqual(rank_sends(limits=(ONE, ONE), capacity=(2, 1)), [ONE, ONE])
        self.assertEqual(rank_sends(ONE, []), [])


class Spare(unittest.TestCase):
    def test_by_weights(self):
        # All limits are far away, so the rest of 6 goes by the weights alone.
        self.assertEqual(
            spare_sends((9, 1), [1, 2, 3], [ONE, ONE, ONE], [(90, 1)] * 3), [(2, 1), (3, 1), (4, 1)])
        self.assertEqual(spare_sends((13, 1), [1, 12], [ZERO, ZERO], [(90, 1)] * 2), [ONE, (12, 1)])

    def test_extras_of_one_height(self):
        # The first one has no more than 1/2, and the other two share the rest as 1 to 2.
        self.assertEqual(
            spare_sends((8, 1), [4, 1, 2], [ONE, ONE, ONE], [(3, 2), (9, 1), (9, 1)]),
            [(3, 2), (5, 2), (4, 1)])

    def test_flows_without_limit_left(self):
        self.assertEqual(
            spare_sends((10, 1), [1, 1, 1], FOUR[:3], [ZERO, (3, 1), (9, 1)]), [ZERO, (3, 1), (7, 1)])
        self.assertEqual(spare_sends((10, 1), [1, 1], FOUR[:2], [(2, 1), (3, 1)]), [(2, 1), (3, 1)])
        self.assertEqual(spare_sends((10, 1), [1, 1], FOUR[:2], [ZERO, ZERO]), [ZERO, ZERO])

    def test_capacities(self):
        for capacity, told in [
            ((6, 1), [(3, 1), (3, 1)]), ((7, 1), [(7, 2), (7, 2)]), ((8, 1), [(4, 1), (4, 1)]),
            ((9, 1), [(4, 1), (5, 1)]), ((10, 1), [(4, 1), (6, 1)]), ((99, 1), [(4, 1), (6, 1)]),
        ]:
            self.assertEqual(spare_sends(capacity, [1, 1], FOUR[:2], [(4, 1), (6, 1)]), told)
        self.assertEqual(spare_sends(ONE, [], [], []), [])

    def test_by_name(self):
        told = spare_sends(limits=((9, 1),), allotments=(ONE,), weights=(5,), capacity=(4, 1))
        self.assertEqual(told, [(4, 1)])

    def test_arguments_stay(self):
        for kind in [list, tuple]:
            weights, own, limits = kind([1, 2]), kind([ONE, ONE]), kind([(3, 1), (9, 1)])
            before = copy.deepcopy((weights, own, limits))
            found = [spare_sends((5, 1), weights, own, limits), own_sends(own, limits), rank_sends((5, 1), limits)]
            self.assertEqual(found, [[(2, 1), (3, 1)], [ONE, ONE], [(3, 1), (2, 1)]])
            self.assertEqual({sends.__class__ for sends in found}, {list})
            for sends in found:
                sends.clear()
            self.assertEqual((weights, own, limits), before)

    def test_any(self):
        rng = random.Random(74)
        for _ in range(300):
            many = rng.randint(1, 6)
            own = [fraction(random_amount(rng, 5)) for _ in range(many)]
            limits = [rng.choice([Fraction(0), value, value + 1, fraction(random_amount(rng, 9))]) for value in own]
            weights = [rng.randint(1, 12) for _ in range(many)]
            capacity = sum(own) + rng.choice([0, Fraction(1, 3), 1, 5, 60])
            asked = (pair(capacity), weights, [pair(value) for value in own], [pair(value) for value in limits])
            base = [min(value, limit) for value, limit in zip(own, limits)]
            self.assertEqual(own_sends(*asked[2:]), [pair(value) for value in base])
            wants = [(weight, limit - value) for weight, limit, value in zip(weights, limits, base)]
            extras = plain_extras(capacity - sum(base), wants)
            found = spare_sends(*asked)
            self.assertEqual(found, [pair(value + extra) for value, extra in zip(base, extras)])
            self.assertEqual(sum([fraction(value) for value in found]), min(capacity, sum(limits)))
            ranks = [fraction(value) for value in rank_sends(asked[0], asked[3])]
            self.assertEqual(sum(ranks), min(capacity, sum(limits)))
            for at, value in enumerate(ranks):
                self.assertEqual(value, min(limits[at], capacity - sum(ranks[:at])))


if __name__ == "__main__":
    unittest.main()
