import random
import unittest

from bandheld.amounts import ONE, ZERO, plus
from bandheld.wires import Wire
from tests.helpers import fraction, pair


def wire_of(way, *puts):
    wire = Wire(way)
    for tick, water in puts:
        wire.put(tick, water)
    return wire


class Arriving(unittest.TestCase):
    def test_one_way_later_and_at_no_other_tick(self):
        for way in [1, 2, 7, 20]:
            for tick in [-25, -1, 0, 3, 1999]:
                wire = Wire(way)
                self.assertIs(wire.put(tick, (5, 2)), None)
                for when in range(tick - 25, tick + 46):
                    told = (5, 2) if when == tick + way else ZERO
                    self.assertEqual(wire.arriving(when), told, (way, tick, when))
                self.assertEqual(wire.arriving(tick + way), (5, 2))

    def test_the_later_put_stands(self):
        wire = wire_of(3, (4, ONE), (5, (2, 1)), (4, (7, 3)))
        self.assertEqual([wire.arriving(when) for when in range(6, 10)], [ZERO, (7, 3), (2, 1), ZERO])
        self.assertEqual(wire.under_way(5), (13, 3))
        wire.put(4, ZERO)
        self.assertEqual((wire.arriving(7), wire.under_way(5)), (ZERO, (2, 1)))

    def test_any_order(self):
        wire = wire_of(2, (9, (9, 1)), (-4, (4, 1)), (3, (3, 1)), (-5, (5, 1)))
        self.assertEqual([wire.arriving(when) for when in [-3, -2, 5, 11]], [(5, 1), (4, 1), (3, 1), (9, 1)])
        self.assertEqual(wire.under_way(-4), (9, 1))
        self.assertEqual(wire.arriving(tick=11), (9, 1))
        wire.put(water=ONE, tick=9)
        self.assertEqual(wire.arriving(11), ONE)
        self.assertEqual(Wire(way=4).arriving(0), ZERO)


class UnderWay(unittest.TestCase):
    def test_each_tick(self):
        wire = wire_of(3, (4, ONE), (5, (1, 2)), (8, (1, 3)))
        told = {4: ONE, 5: (3, 2), 6: (3, 2), 7: (1, 2), 8: (1, 3), 9: (1, 3), 10: (1, 3)}
        for tick in range(-2, 16):
            self.assertEqual(wire.under_way(tick), told.get(tick, ZERO), tick)
        self.assertEqual(wire.under_way(tick=5), (3, 2))

    def test_shortest_and_longest(self):
        short = wire_of(1, (0, ONE), (1, (2, 1)))
        self.assertEqual([short.under_way(tick) for tick in range(-1, 3)], [ZERO, ONE, (2, 1), ZERO])
        long = wire_of(20, *[(tick, ONE) for tick in range(-30, 30)])
        self.assertEqual([long.under_way(tick) for tick in [-31, -30, -12, -11, 0, 29]],
                         [ZERO, ONE, (19, 1), (20, 1), (20, 1), (20, 1)])
        self.assertEqual([long.under_way(tick) for tick in [30, 47, 48, 49]], [(19, 1), (2, 1), ONE, ZERO])
        self.assertEqual(Wire(20).under_way(5), ZERO)

    def test_what_is_under_way_arrives(self):
        rng = random.Random(71)
        for _ in range(40):
            way = rng.randint(1, 20)
            puts = {tick: pair(rng.randint(0, 40)) for tick in rng.sample(range(-20, 40), 25)}
            wire = wire_of(way, *puts.items())
            for tick in range(-45, 65):
                coming = [wire.arriving(when) for when in range(tick + 1, tick + way + 1)]
                self.assertEqual(wire.under_way(tick), plus(*coming))
                told = sum([fraction(puts[put]) for put in puts if tick - way < put <= tick])
                self.assertEqual(wire.under_way(tick), pair(told))


class Copies(unittest.TestCase):
    def test_copy(self):
        wire = wire_of(2, (4, ONE))
        other = wire.copy()
        self.assertIs(other.__class__, Wire)
        other.put(5, (2, 1))
        other.put(4, (3, 1))
        self.assertEqual([wire.arriving(6), wire.arriving(7), wire.under_way(5)], [ONE, ZERO, ONE])
        wire.put(6, (9, 1))
        self.assertEqual([other.arriving(when) for when in [6, 7, 8]], [(3, 1), (2, 1), ZERO])
        self.assertEqual(other.copy().under_way(5), (5, 1))


if __name__ == "__main__":
    unittest.main()
