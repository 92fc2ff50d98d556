import random
import unittest
from fractions import Fraction

from bandheld.amounts import ONE, TOP, ZERO, plus
from bandheld.levels import allotments, level_of, spare_shares
from tests.helpers import fraction, pair, plain_share, plain_total, random_amount, random_manner

EXAMPLE = [((ZERO, TOP), 1, TOP), ((ZERO, ONE), 1, TOP), ((ZERO, TOP), 1, TOP)]
NARROW = Fraction(1, 10 ** 60)


def random_wishes(rng):
    bounds = [TOP, (1500, 1), ZERO, None, None]
    return [
        (random_manner(rng), rng.randint(1, 12), rng.choice(bounds) or random_amount(rng))
        for _ in range(rng.randint(0, 7))
    ]


class Levels(unittest.TestCase):
    def check_level(self, capacity, wishes):
        level = level_of(capacity, wishes)
        height = fraction(level)
        self.assertEqual(level, pair(height))
        self.assertTrue(0 <= height <= 1000)
        if plain_total(wishes, Fraction(1000)) < fraction(capacity):
            self.assertEqual(level, TOP)
        else:
            self.assertGreaterEqual(plain_total(wishes, height), fraction(capacity))
        if height > 0:
            self.assertLess(plain_total(wishes, height - NARROW), fraction(capacity))
        return level

    def test_example(self):
        self.assertEqual(level_of((6, 1), EXAMPLE), (5, 2))
        self.assertEqual(allotments((5, 2), EXAMPLE), [(5, 2), ONE, (5, 2)])
        self.assertEqual(level_of(wishes=EXAMPLE, capacity=(6, 1)), (5, 2))
        self.assertEqual(allotments(wishes=EXAMPLE, level=(5, 2)), [(5, 2), ONE, (5, 2)])

    def test_nobody(self):
        self.assertEqual(level_of(ONE, []), TOP)
        self.assertEqual(level_of(ONE, ()), TOP)
        self.assertEqual(level_of(ONE, [((), 1, TOP), ((), 12, ZERO)]), TOP)
        self.assertEqual(allotments(TOP, []), [])
        self.assertEqual(allotments(TOP, [((), 1, TOP), ((), 12, ZERO)]), [ZERO, ZERO])

    def test_reached_at_zero(self):
        leasts = [((ONE, TOP), 1, TOP), (((2, 1), (2, 1)), 3, ZERO)]
        self.assertEqual(level_of((3, 1), leasts), ZERO)
        self.assertEqual(level_of((5, 2), leasts), ZERO)
        self.assertEqual(level_of((7, 2), leasts), (3, 2))

    def test_reached_at_top(self):
        self.assertEqual(level_of(TOP, [((ZERO, TOP), 1, TOP)]), TOP)
        self.assertEqual(level_of((1999, 2), [((ZERO, TOP), 1, TOP)]), (1999, 2))
        self.assertEqual(level_of((1001, 1), [((ZERO, TOP), 1, TOP)]), TOP)
        self.assertEqual(level_of((3000, 1), [((ZERO, (9000, 1)), 2, (1200, 1))]), TOP)
        self.assertEqual(level_of((2000, 1), [((ZERO, (9000, 1)), 2, (1200, 1))]), TOP)
        self.assertEqual(level_of((1998, 1), [((ZERO, (9000, 1)), 2, (1200, 1))]), (999, 1))
        for capacity in [(2001, 1), (2200, 1), (2400, 1), (2401, 1)]:
            self.assertEqual(level_of(capacity, [((ZERO, (9000, 1)), 2, (1200, 1))]), TOP)

    def test_never_reached(self):
        self.assertEqual(level_of((3, 1), [((ZERO, ONE), 1, TOP), ((ZERO, ONE), 1, TOP)]), TOP)
        self.assertEqual(level_of((3, 1), [((ZERO, TOP), 1, ONE), ((ZERO, TOP), 1, ONE)]), TOP)

    def test_least_of_a_flat_stretch(self):
        wishes = [((ZERO, ONE), 1, TOP), (((3, 1), (5, 1)), 1, TOP)]
        self.assertEqual(level_of((4, 1), wishes), ONE)
        bounded = [((ZERO, TOP), 2, ONE), ((ZERO, (3, 2)), 1, TOP), ((ZERO, ZERO), 12, TOP)]
        self.assertEqual(level_of((7, 2), bounded), (3, 2))
        self.assertEqual(level_of((3, 1), bounded), ONE)

    def test_weights(self):
        wishes = [((ZERO, TOP), 12, TOP), ((ZERO, TOP), 1, TOP)]
        self.assertEqual(level_of((1, 2), wishes), (1, 26))
        self.assertEqual(allotments((1, 26), wishes), [(6, 13), (1, 26)])

    def test_bounds_are_used(self):
        self.assertEqual(level_of((6, 1), [((ZERO, TOP), 1, ONE), ((ZERO, TOP), 1, TOP)]), (5, 1))
        self.assertEqual(allotments((5, 1), [((ZERO, TOP), 1, ONE), ((ONE, TOP), 1, ZERO)]), [ONE, ONE])

    def test_any(self):
        rng = random.Random(11)
        for _ in range(500):
            wishes = random_wishes(rng)
            before = list(wishes)
            capacity = pair(Fraction(rng.randint(1, 240), rng.choice([1, 2, 3, 12])))
            level = self.check_level(capacity, wishes)
            told = allotments(level, wishes)
            self.assertEqual(told, [
                pair(plain_share(manner, weight, min(fraction(level), fraction(bound))))
                for manner, weight, bound in wishes
            ])
            leasts = sum([fraction(manner[0]) for manner, _, _ in wishes if manner])
            if leasts <= fraction(capacity) and level != TOP:
                self.assertEqual(plus(*told), capacity)
            self.assertEqual(wishes, before)
            rng.shuffle(before)
            self.assertEqual(level_of(capacity, tuple(before)), level)

    def test_capacities_that_are_totals_at_breaks(self):
        rng = random.Random(12)
        for _ in range(150):
            wishes = random_wishes(rng)
            heights = [fraction(bound) for _, _, bound in wishes]
            heights += [fraction(wish) / weight for manner, weight, _ in wishes for wish in manner]
            for height in heights + [Fraction(0), Fraction(1000)]:
                capacity = plain_total(wishes, min(height, Fraction(1000)))
                if capacity > 0:
                    level = self.check_level(pair(capacity), wishes)
                    self.assertLessEqual(fraction(level), height)

    def test_many_wishes(self):
        wishes = [((ZERO, (at + 1, 7)), at % 12 + 1, TOP) for at in range(2000)]
        self.check_level((4000, 1), wishes)

    def test_new_list(self):
        first = allotments(ONE, EXAMPLE)
        first.append(ZERO)
        self.assertEqual(len(allotments(ONE, EXAMPLE)), 3)


class Spare(unittest.TestCase):
    def test_nothing_left(self):
        self.assertEqual(spare_shares(ZERO, [(1, ONE), (3, ZERO)]), [ZERO, ZERO])
        self.assertEqual(spare_shares(ZERO, []), [])
        self.assertEqual(spare_shares(ONE, []), [])

    def test_enough_for_all(self):
        wants = [(1, (5, 2)), (12, ONE), (2, ZERO)]
        for rest in [(7, 2), (4, 1), TOP, (9999999, 1)]:
            self.assertEqual(spare_shares(rest, wants), [(5, 2), ONE, ZERO])

    def test_by_weights(self):
        self.assertEqual(spare_shares((3, 1), [(1, (9, 1)), (2, (9, 1))]), [ONE, (2, 1)])
        self.assertEqual(spare_shares((3, 1), [(1, (9, 1)), (2, ONE)]), [(2, 1), ONE])
        self.assertEqual(spare_shares((2, 1), [(1, ONE), (1, (5, 1))]), [ONE, ONE])
        self.assertEqual(spare_shares(wants=((1, ONE), (1, ONE)), rest=ONE), [(1, 2), (1, 2)])

    def test_above_top(self):
        wants = [(1, (500000, 1)), (3, (900000, 1))]
        self.assertEqual(spare_shares((400000, 1), wants), [(100000, 1), (300000, 1)])

    def test_any(self):
        rng = random.Random(13)
        for _ in range(300):
            wants = [(rng.randint(1, 12), random_amount(rng)) for _ in range(rng.randint(0, 6))]
            heights = [fraction(want) / weight for weight, want in wants]
            least = rng.choice(heights + [Fraction(rng.randint(0, 40), 7)])
            rest = sum([min(fraction(want), weight * least) for weight, want in wants], Fraction(0))
            rest += rng.choice([0, 0, Fraction(1, 5)])
            before = list(wants)
            extras = [fraction(extra) for extra in spare_shares(pair(rest), wants)]
            self.assertEqual(wants, before)
            self.assertEqual(sum(extras), min(rest, sum([fraction(want) for _, want in wants])))
            heads = [extra / weight for extra, (weight, _) in zip(extras, wants)]
            for extra, head, (weight, want) in zip(extras, heads, wants):
                self.assertLessEqual(extra, fraction(want))
                if extra < fraction(want):
                    self.assertEqual(head, max(heads))


if __name__ == "__main__":
    unittest.main()
