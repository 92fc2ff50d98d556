import random
import unittest
from fractions import Fraction

from bandheld.amounts import ONE, TOP, ZERO
from bandheld.bands import Band, bands, last_band, next_band
from bandheld.boxes import floor_of, floors, is_box
from bandheld.errors import UnknownName
from bandheld.filling import fill
from bandheld.houses import House
from bandheld.links import Link
from tests.helpers import (
    HOUSE, ODD_VALUES, check_raises, example, flow, fraction, pair, plain_share, random_house,
)
from tests.plain import plain_bands, plain_next


def band_of(house, **ends):
    """A band from pairs (low, high) of numbers."""
    return Band(
        house,
        {link: pair(Fraction(low)) for link, (low, high) in ends.items()},
        {link: pair(Fraction(high)) for link, (low, high) in ends.items()},
    )


def moved(rng, house, band):
    """A band with one end a little further out or in, within its bounds."""
    lows, highs = band.lows(), band.highs()
    link = rng.choice([link.name for link in house.links() if not link.strange])
    ends = rng.choice([lows, highs])
    step = rng.choice([Fraction(-1, 4), Fraction(1, 4), Fraction(-1, 10 ** 12), Fraction(1, 10 ** 12)])
    ends[link] = pair(min(max(fraction(ends[link]) + step, Fraction(0)), Fraction(1000)))
    if fraction(lows[link]) > fraction(highs[link]):
        return band
    return Band(house, lows, highs)


class Boxes(unittest.TestCase):
    def check(self, house, told, **ends):
        self.assertIs(is_box(house, band_of(house, **ends)), told, ends)

    def test_last_bands(self):
        for house in [example(), example(strange=True), example().with_strange("a"), example().with_strange("b", "h")]:
            for band in bands(house):
                self.assertIs(is_box(house, band), True)
            self.assertIs(is_box(band=last_band(house), house=house), True)
        self.assertIs(is_box(House(1), Band(House(1), {}, {})), True)

    def test_one_end(self):
        house = example(strange=True)
        self.check(house, True, a=(2, 1000), b=(3, 4))
        self.check(house, True, a=(2, 1000), b=("35/12", 4))
        self.check(house, True, a=(2, 1000), b=(3, "49/12"))
        self.check(house, False, a=(2, 1000), b=("37/12", 4))
        self.check(house, False, a=(2, 1000), b=(3, "47/12"))
        self.check(house, False, a=("25/12", 1000), b=(3, 4))
        self.check(house, False, a=(2, "11999/12"), b=(3, 4))
        # With a lower low end at a more can come at b.
        self.check(house, False, a=("23/12", 1000), b=(3, 4))
        self.check(house, True, a=("23/12", 1000), b=(3, "49/12"))

    def test_plain(self):
        self.check(example(), True, a=(2, 2), b=(4, 4))
        self.check(example(), True, a=(0, 1000), b=(0, 1000))
        self.check(example(), False, a=(0, 2), b=(4, 4))
        self.check(example(), False, a=(2, 3), b=(4, 4))
        self.check(example(), False, a=(3, 3), b=(3, 3))
        self.check(example(), False, a=(0, 1), b=(0, 1000))

    def test_other_houses(self):
        house = example()
        strange = house.with_strange("b")
        narrow = band_of(house, a=(2, 1000), b=(3, 4))
        self.assertIs(is_box(strange, narrow), False)
        self.assertIs(is_box(strange, band_of(house, a=(2, 1000), b=(0, 4))), False)
        self.assertIs(is_box(strange, band_of(house, a=(2, 1000), b=(3, 1000))), False)
        self.assertIs(is_box(strange, band_of(house, a=(2, 1000), b=(0, 1000))), True)
        self.assertIs(is_box(strange, band_of(house, a=(2, 4), b=(0, 1000))), True)
        self.assertIs(is_box(strange, band_of(house, a=(2, 3), b=(0, 1000))), False)
        self.assertIs(is_box(house, last_band(strange)), True)
        self.assertIs(is_box(example(strange=True), last_band(example())), False)
        self.assertIs(is_box(example(), last_band(example(strange=True))), True)

    def test_any(self):
        rng = random.Random(57)
        seen = {}
        for _ in range(150):
            house = random_house(rng, rng.choice([0, 0.2, 0.5]), rng.choice([0, 0.5]))
            found = list(bands(house))
            if all([link.strange for link in house.links()]):
                continue
            for band in found + [moved(rng, house, band) for band in found[-1:] * 5] + [next_band(house, found[0])]:
                lows, highs = plain_next(house, (band.lows(), band.highs()))
                told = all([
                    fraction(band.low_of(link)) <= fraction(lows[link])
                    and fraction(band.high_of(link)) >= fraction(highs[link]) for link in lows
                ])
                self.assertIs(is_box(house, band), told)
                self.assertTrue(not told or found[-1].within(band))
                seen[(told, band == found[-1])] = True
        self.assertEqual(sorted(seen), [(False, False), (True, False), (True, True)])


class Floors(unittest.TestCase):
    def test_example(self):
        self.assertEqual(floors(example()), {"f": (2, 1), "g": (2, 1), "h": (4, 1)})
        self.assertEqual(list(floors(example())), ["f", "g", "h"])
        self.assertEqual(floor_of(example(), "h"), (4, 1))
        strange = example(strange=True)
        self.assertEqual(floors(strange), {"f": (2, 1), "h": (3, 1)})
        self.assertEqual(floors(house=example(strange=True, cap=ONE)), {"f": (3, 1), "h": (3, 1)})
        self.assertEqual(floor_of(flow="h", house=strange), (3, 1))

    def test_gone(self):
        house = example(least=ONE).with_manner("g", ())
        self.assertEqual(floor_of(house, "g"), ZERO)
        self.assertEqual(floors(house), {"f": (3, 1), "g": ZERO, "h": (3, 1)})

    def test_strange_links(self):
        house = House(
            1, Link("a", (4, 1), strange=True), Link("b", (6, 1)), flow("f", "b", "a", least=ONE, manner=((1, 2), TOP)),
            flow("g", "a"), flow("h", "b", weight=2),
        )
        self.assertEqual(floors(house), {"f": (1, 2), "g": ZERO, "h": (4, 1)})
        self.assertEqual(floor_of(house, "f"), (1, 2))

    def test_weights_and_wishes(self):
        parts = [flow("f", "a", weight=3, cap=(5, 2)), flow("g", "a"), flow("h", "a", weight=2)]
        house = House(1, Link("a", (4, 1)), *parts)
        self.assertEqual(floors(house), {"f": (2, 1), "g": (2, 3), "h": (4, 3)})
        self.assertEqual(floors(house.with_strange("h")), {"f": (2, 1), "g": (2, 3)})
        self.assertEqual(floors(house.with_manner("h", ())), {"f": (5, 2), "g": (3, 2), "h": ZERO})

    def test_unknown(self):
        for name in ODD_VALUES + ["x", "a", ("f",), ["f"], 0]:
            check_raises(self, UnknownName, {"name": name}, floor_of, example(), name)
        check_raises(self, UnknownName, {"name": "g"}, floor_of, example(strange=True), "g")
        check_raises(self, UnknownName, {"name": "f"}, floor_of, House(1), "f")

    def test_new_dicts(self):
        house = example()
        floors(house).clear()
        self.assertEqual(floors(house), {"f": (2, 1), "g": (2, 1), "h": (4, 1)})
        self.assertEqual((floors(House(1)), floors(HOUSE.with_strange("f"))), ({}, {}))

    def test_any(self):
        rng = random.Random(58)
        for _ in range(100):
            house = random_house(rng, rng.choice([0, 0.2]), rng.choice([0, 0.5]))
            lows = plain_bands(house)[-1][0]
            told = {}
            for part in house.flows():
                if not part.strange:
                    low = min([fraction(lows[link]) for link in part.route])
                    told[part.name] = pair(plain_share(part.manner, part.weight, low))
                    self.assertEqual(floor_of(house, part.name), told[part.name])
            self.assertEqual(list(floors(house).items()), sorted(told.items()))
            if house.is_plain():
                self.assertEqual(floors(house), fill(house).shares())


if __name__ == "__main__":
    unittest.main()
