import random
import unittest
from fractions import Fraction

from bandheld.amounts import ONE, TOP, ZERO
from bandheld.bands import Band, bands, first_band, high_value, last_band, low_value, next_band, settling
from bandheld.errors import BadBand, UnknownName
from bandheld.filling import fill
from bandheld.houses import House
from bandheld.links import Link
from tests.helpers import (
    FLOW, HOUSE, LINK, ODD_VALUES, check_raises, example, flow, fraction, pair, random_amount, random_house,
)
from tests.plain import plain_bands, plain_next, plain_value

NO_LINKS = ODD_VALUES + ["x", "f", ("a",), ["a"], 0, Band(House(1), {}, {})]


def ends(band):
    return band.lows(), band.highs()


def random_band(rng, house):
    """A band with ends that mean nothing."""
    lows = {}
    highs = {}
    for link in house.links():
        both = sorted([random_amount(rng), random_amount(rng, 1000)], key=fraction)
        lows[link.name], highs[link.name] = (ZERO, TOP) if link.strange else both
    return Band(house, lows, highs)


class Examples(unittest.TestCase):
    def check(self, house, texts):
        found = list(bands(house))
        self.assertEqual([repr(band) for band in found], ["Band(" + text + ")" for text in texts])
        self.assertEqual(settling(house), len(texts) - 1)
        self.assertEqual(first_band(house), found[0])
        self.assertEqual(last_band(house), found[-1])
        for band, further in zip(found, found[1:] + found[-1:]):
            self.assertEqual(next_band(house, band), further)
        for band in found:
            self.assertIs(band.__class__, Band)

    def test_example(self):
        self.check(example(), [
            "a 2 to 1000, b 3 to 1000", "a 2 to 2, b 3 to 4", "a 2 to 2, b 4 to 4",
        ])

    def test_strange_flow(self):
        self.check(example(strange=True), ["a 2 to 1000, b 3 to 1000", "a 2 to 1000, b 3 to 4"])

    def test_strange_flow_with_a_cap(self):
        # The document's example has b 3 to 4 in band 1 here, as if a began at
        # 2. But g is cut to its cap, so a begins at 3 by the definition of
        # band 0, and the band that the example names as the last one is band 1.
        self.check(example(strange=True, cap=ONE), ["a 3 to 1000, b 3 to 1000", "a 3 to 1000, b 3 to 3"])
        self.check(example(strange=True, cap=(3, 1)), ["a 2 to 1000, b 3 to 1000", "a 2 to 1000, b 3 to 4"])

    def test_strange_link(self):
        self.check(example().with_strange("b"), ["a 2 to 1000, b 0 to 1000", "a 2 to 4, b 0 to 1000"])
        self.check(example().with_strange("a"), ["a 0 to 1000, b 3 to 1000", "a 0 to 1000, b 3 to 6"])
        self.check(example().with_strange("a", "b"), ["a 0 to 1000, b 0 to 1000"])

    def test_shaky_link(self):
        house = House(
            3, Link("a", (4, 1), low=(3, 1)), Link("b", (6, 1)), flow("f", "a", "b"), flow("g", "a"), flow("h", "b"))
        self.check(house, [
            "a 3/2 to 1000, b 3 to 1000", "a 3/2 to 2, b 3 to 9/2", "a 3/2 to 2, b 4 to 9/2",
        ])

    def test_plain_and_empty(self):
        self.check(House(1), [""])
        self.check(HOUSE, ["a 4 to 1000", "a 4 to 4"])
        self.check(House(1, LINK, flow("f", "a", cap=(3, 1))), ["a 1000 to 1000"])
        self.check(House(1, LINK, flow("f", "a", manner=())), ["a 4 to 1000", "a 1000 to 1000"])
        self.check(House(1, LINK, flow("f", "a", least=(4, 1))), ["a 0 to 1000", "a 0 to 0"])

    def test_wishes_are_not_asked_at_first(self):
        house = House(1, LINK, flow("f", "a", least=ONE, cap=(5, 1), manner=(ZERO, ONE)), flow("g", "a"))
        self.check(house, ["a 2 to 1000", "a 3 to 3"])
        self.check(house.with_strange("f"), ["a 2 to 1000", "a 2 to 4"])
        whole = House(1, LINK, flow("f", "a", least=(4, 1), manner=(ZERO, ONE)), flow("g", "a"))
        self.check(whole.with_strange("f"), ["a 0 to 1000", "a 0 to 4"])

    def test_by_name(self):
        self.assertEqual([repr(band) for band in bands(house=House(1))], ["Band()"])
        house = example()
        self.assertEqual(settling(house=house), 2)
        second = next_band(band=first_band(house=house), house=house)
        self.assertEqual(last_band(house=house), next_band(house, second))

    def test_one_by_one(self):
        told = bands(example())
        self.assertIsNot(told.__class__, list)
        self.assertEqual(next(told), first_band(example()))
        self.assertEqual(len(list(told)), 2)


class Facts(unittest.TestCase):
    def test_any(self):
        rng = random.Random(52)
        for _ in range(120):
            house = random_house(rng, rng.choice([0, 0.2, 0.5]), rng.choice([0, 0.5]))
            found = list(bands(house))
            self.assertEqual([ends(band) for band in found], plain_bands(house))
            self.assertEqual((settling(house), last_band(house)), (len(found) - 1, found[-1]))
            for band, further in zip(found, found[1:]):
                self.assertTrue(further.within(band))
                self.assertFalse(further == band)
            band = random_band(rng, house)
            self.assertEqual(ends(next_band(house, band)), plain_next(house, ends(band)))

    def test_plain(self):
        rng = random.Random(53)
        for _ in range(60):
            house = random_house(rng)
            band = last_band(house)
            self.assertTrue(band.is_point())
            self.assertEqual(ends(band), (fill(house).levels(), fill(house).levels()))

    def test_wider(self):
        rng = random.Random(54)
        for _ in range(80):
            house = random_house(rng, 0.2, 0.3)
            names = [part.name for part in house.links() + house.flows()]
            more = house.with_strange(*rng.sample(names, rng.randint(0, len(names))))
            shakier = House(house.age, *[shaken(more, link) for link in more.links()], *more.flows())
            narrow = list(bands(house))
            for wide in [list(bands(more)), list(bands(shakier))]:
                for at in range(max(len(narrow), len(wide))):
                    inner = narrow[min(at, len(narrow) - 1)]
                    self.assertTrue(inner.within(wide[min(at, len(wide) - 1)]))


def shaken(house, link):
    """A link that can fall to what is promised to its flows."""
    promised = sum([fraction(house.flow_of(name).least) for name in house.on(link.name)], Fraction(0))
    return Link(link.name, link.capacity, low=pair(max(promised, Fraction(1, 12))), strange=link.strange)


class Values(unittest.TestCase):
    def test_example(self):
        house = example()
        self.assertEqual(low_value(house, "a", {"b": TOP}), (2, 1))
        self.assertEqual(low_value(house, "a", {"b": ONE}), (3, 1))
        self.assertEqual(high_value(house, "b", {"a": (2, 1)}), (4, 1))
        self.assertEqual(low_value(house=house, link="b", amounts={"a": ZERO}), (6, 1))
        self.assertEqual(high_value(house=house, link="b", amounts={"a": ZERO}), (6, 1))
        strange = example(strange=True, least=ONE, cap=(3, 2))
        self.assertEqual(low_value(strange, "a", {"b": TOP}), (5, 2))
        self.assertEqual(high_value(strange, "a", {"b": TOP}), (4, 1))
        shaky = House(1, Link("a", (4, 1), low=(7, 2)), FLOW)
        self.assertEqual((low_value(shaky, "a", {}), high_value(shaky, "a", {})), ((7, 2), (4, 1)))

    def test_own_entry(self):
        house = example()
        for own in [ZERO, ONE, TOP]:
            for call in [low_value, high_value]:
                amounts = {"b": (3, 2), "a": own}
                self.assertEqual(call(house, "a", amounts), (5, 2))
                self.assertEqual(call(house, "a", {"b": (3, 2)}), (5, 2))
                self.assertEqual(amounts, {"b": (3, 2), "a": own})

    def test_strange_link(self):
        house = example().with_strange("a")
        for amounts in [{"b": ONE}, {"b": ZERO, "a": ONE}]:
            self.assertEqual((low_value(house, "a", amounts), high_value(house, "a", amounts)), (ZERO, TOP))
        self.assertEqual((low_value(house, "b", {"a": ONE}), high_value(house, "b", {"a": TOP})), ((5, 1), (3, 1)))

    def test_unknown(self):
        for name in NO_LINKS:
            check_raises(self, UnknownName, {"name": name}, low_value, example(), name, {"a": ONE, "b": ONE})
            check_raises(self, UnknownName, {"name": name}, high_value, example(), name, {"a": ONE, "b": ONE})

    def test_any(self):
        rng = random.Random(55)
        for _ in range(150):
            house = random_house(rng, 0.3, 0.5)
            amounts = {link.name: random_amount(rng) for link in house.links()}
            for link in amounts:
                self.assertEqual(low_value(house, link, amounts), plain_value(house, link, "low", amounts))
                self.assertEqual(high_value(house, link, amounts), plain_value(house, link, "high", amounts))
                others = {other: amounts[other] for other in amounts if other != link}
                self.assertEqual(low_value(house, link, others), low_value(house, link, amounts))


class Refusals(unittest.TestCase):
    def test_no_dicts(self):
        right = {"a": ONE, "b": ONE}
        wrong = ODD_VALUES + [["a", "b"], [("a", ONE), ("b", ONE)], "ab", 3, first_band(example())]
        wrong += [{}, {"a": ONE}, {"a": ONE, "x": ONE}, {"a": ONE, "b": ONE, "f": ONE}, {"a": ONE, None: ONE}]
        for value in wrong:
            check_raises(self, BadBand, {"link": None}, Band, example(), value, right)
            check_raises(self, BadBand, {"link": None}, Band, example(), right, value)
            check_raises(self, BadBand, {"link": None}, Band, example(), {"a": TOP, "b": 3}, value)
            check_raises(self, BadBand, {"link": None}, Band, example(), value, {"a": None, "b": ZERO})
        check_raises(self, BadBand, {"link": None}, Band, House(1), right, right)

    def test_no_ends(self):
        wrong = ODD_VALUES + [1, [1, 1], (1001, 1), (12001, 12), (0, 3), ((1, 1), (1, 1))]
        for value in wrong:
            for bad in [({"a": value}, {"a": TOP}), ({"a": ZERO}, {"a": value}), ({"a": value}, {"a": value})]:
                lows, highs = [{"b": None, **side} for side in bad]
                check_raises(self, BadBand, {"link": "a"}, Band, example(), lows, highs)
                lows, highs = [{"b": side["a"], "a": ONE} for side in bad]
                check_raises(self, BadBand, {"link": "b"}, Band, example(), lows, highs)

    def test_crossed_ends(self):
        check_raises(self, BadBand, {"link": "a"}, Band, example(), {"b": TOP, "a": ONE}, {"b": ONE, "a": (11, 12)})
        check_raises(self, BadBand, {"link": "b"}, Band, example(), {"b": (3, 2), "a": ONE}, {"b": (4, 3), "a": ONE})
        self.assertTrue(Band(example(), {"a": (4, 3), "b": ZERO}, {"a": (3, 2), "b": ZERO}))

    def test_strange_links(self):
        house = example().with_strange("b")
        right = Band(house, {"a": ONE, "b": ZERO}, {"a": TOP, "b": TOP})
        self.assertEqual(repr(right), "Band(a 1 to 1000, b 0 to 1000)")
        for low, high in [(ONE, TOP), (ZERO, ONE), (ONE, ONE), (ZERO, (1001, 1)), (ZERO, None), ((0, 2), TOP)]:
            check_raises(self, BadBand, {"link": "b"}, Band, house, {"a": ONE, "b": low}, {"a": TOP, "b": high})
            both = house.with_strange("a")
            check_raises(self, BadBand, {"link": "b"}, Band, both, {"a": ZERO, "b": low}, {"a": TOP, "b": high})
            check_raises(self, BadBand, {"link": "a"}, Band, both, {"a": low, "b": low}, {"a": high, "b": high})

    def test_whole_range(self):
        house = example()
        wide = Band(house, {"a": ZERO, "b": TOP}, {"a": TOP, "b": TOP})
        self.assertEqual(ends(wide), ({"a": ZERO, "b": TOP}, {"a": TOP, "b": TOP}))


class Answers(unittest.TestCase):
    def make(self):
        return Band(example(), {"b": ONE, "a": (3, 2)}, {"b": (4, 1), "a": (5, 2)})

    def test_ends(self):
        band = self.make()
        self.assertEqual((band.low_of("a"), band.low_of(link="b")), ((3, 2), ONE))
        self.assertEqual((band.high_of("a"), band.high_of(link="b")), ((5, 2), (4, 1)))
        self.assertEqual(list(band.lows().items()), [("a", (3, 2)), ("b", ONE)])
        self.assertEqual(list(band.highs().items()), [("a", (5, 2)), ("b", (4, 1))])
        for name in NO_LINKS:
            check_raises(self, UnknownName, {"name": name}, band.low_of, name)
            check_raises(self, UnknownName, {"name": name}, band.high_of, name)

    def test_dicts_are_copies(self):
        lows = {"b": ONE, "a": (3, 2)}
        highs = {"b": (4, 1), "a": (5, 2)}
        band = Band(example(), highs=highs, lows=lows)
        lows["a"] = ZERO
        highs.clear()
        band.lows().clear()
        band.highs()["b"] = TOP
        self.assertEqual(band, self.make())
        self.assertEqual(repr(band), "Band(a 3/2 to 5/2, b 1 to 4)")
        self.assertEqual(lows, {"b": ONE, "a": ZERO})

    def test_least_low(self):
        band = self.make()
        self.assertEqual(band.least_low([]), TOP)
        self.assertEqual(band.least_low(["a"]), (3, 2))
        self.assertEqual(band.least_low(("a", "b")), ONE)
        self.assertEqual(band.least_low(route=["b", "a"]), ONE)
        route = ["b", "a"]
        band.least_low(route)
        self.assertEqual(route, ["b", "a"])

    def test_within(self):
        band = self.make()
        self.assertIs(band.within(band), True)
        self.assertIs(band.within(other=first_band(example())), False)
        for lows, highs, told in [
            ({"a": (3, 2), "b": ONE}, {"a": (5, 2), "b": (4, 1)}, True),
            ({"a": ONE, "b": ZERO}, {"a": TOP, "b": TOP}, True),
            ({"a": (19, 12), "b": ONE}, {"a": (5, 2), "b": (4, 1)}, False),
            ({"a": (3, 2), "b": (13, 12)}, {"a": (5, 2), "b": (4, 1)}, False),
            ({"a": (3, 2), "b": ONE}, {"a": (29, 12), "b": (4, 1)}, False),
            ({"a": (3, 2), "b": ONE}, {"a": (5, 2), "b": (47, 12)}, False),
            ({"a": ZERO, "b": ZERO}, {"a": ONE, "b": TOP}, False),
            ({"a": (4, 1), "b": ZERO}, {"a": TOP, "b": TOP}, False),
        ]:
            self.assertIs(band.within(Band(example(), lows, highs)), told)
        self.assertIs(Band(House(1), {}, {}).within(Band(House(2), {}, {})), True)

    def test_contains(self):
        band = self.make()
        for place in [("a", (3, 2)), ("a", (2, 1)), ("a", (5, 2)), ("b", ONE), ("b", (4, 1))]:
            self.assertIs(place in band, True, place)
        self.assertIs(("b", (10 ** 50 + 1, 10 ** 50)) in band, True)
        self.assertIs(("b", (10 ** 50 - 1, 10 ** 50)) in band, False)
        wrong = [("a", (17, 12)), ("a", (31, 12)), ("b", (11, 12)), ("b", (49, 12)), ("b", ZERO), ("a", TOP)]
        wrong += [("a", (4, 2)), ("a", 2), ("a", None), ("a", (True, 1)), ("b", (1, True)), ["a", (2, 1)]]
        wrong += [("x", (2, 1)), ("f", (2, 1)), (None, (2, 1)), (["a"], (2, 1))]
        wrong += [("a", (2, 1), (2, 1)), ("a",), (), "ab"]
        for place in wrong + ODD_VALUES + ["a", 2, (example(), (2, 1)), ("a", example())]:
            self.assertIs(place in band, False, place)
        self.assertIs(("a", ONE) in Band(House(1), {}, {}), False)

    def test_is_point(self):
        point = {"a": (2, 1), "b": (3, 1)}
        self.assertIs(Band(example(), point, point).is_point(), True)
        self.assertIs(self.make().is_point(), False)
        self.assertIs(Band(example(), point, {"a": (2, 1), "b": (4, 1)}).is_point(), False)
        self.assertIs(Band(example(), point, {"a": (3, 1), "b": (3, 1)}).is_point(), False)
        wide = ({"a": (2, 1), "b": ZERO}, {"a": (2, 1), "b": TOP})
        self.assertIs(Band(example(), *wide).is_point(), False)
        self.assertIs(Band(example().with_strange("b"), *wide).is_point(), True)
        self.assertIs(Band(House(1), {}, {}).is_point(), True)

    def test_equal(self):
        band = self.make()
        other = House(5, Link("a", ONE), Link("b", ONE), flow("x", "a", "b"))
        self.assertTrue(band == Band(other, band.lows(), band.highs()))
        self.assertFalse(band != Band(other, band.lows(), band.highs()))
        wide = ({"a": ONE, "b": ZERO}, {"a": TOP, "b": TOP})
        self.assertTrue(Band(example(), *wide) == Band(example().with_strange("b"), *wide))
        for different in [
            Band(example(), band.lows(), {"a": (5, 2), "b": (5, 1)}),
            Band(example(), {"a": ONE, "b": ONE}, band.highs()),
            Band(HOUSE, {"a": (3, 2)}, {"a": (5, 2)}), Band(House(1), {}, {}), fill(example()), example(), None,
            "Band", (band.lows(), band.highs()),
        ]:
            self.assertFalse(band == different)
            self.assertFalse(different == band)
            self.assertTrue(band != different)

    def test_len_and_repr(self):
        self.assertEqual(repr(self.make()), "Band(a 3/2 to 5/2, b 1 to 4)")
        self.assertEqual((len(self.make()), bool(self.make())), (2, True))
        empty = Band(House(1), {}, {})
        self.assertEqual((len(empty), bool(empty), repr(empty), ends(empty)), (0, True, "Band()", ({}, {})))
        self.assertEqual(empty, first_band(House(1)))

    def test_whichever_band(self):
        house = example()
        for band in [self.make(), Band(house, {"a": TOP, "b": TOP}, {"a": TOP, "b": TOP})]:
            self.assertEqual(ends(next_band(house, band)), plain_next(house, ends(band)))
        strange = house.with_strange("b")
        told = next_band(strange, self.make())
        self.assertEqual(repr(told), "Band(a 2 to 3, b 0 to 1000)")
        narrow = Band(house, {"a": (3, 1), "b": ONE}, {"a": (3, 1), "b": ONE})
        self.assertEqual(repr(next_band(house, narrow)), "Band(a 3 to 3, b 3 to 3)")
        self.assertIs(("a", pair(Fraction(3))) in next_band(house, narrow), True)


if __name__ == "__main__":
    unittest.main()
