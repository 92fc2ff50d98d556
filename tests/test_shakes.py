import random
import unittest

from bandheld.amounts import ONE, TOP, ZERO
from bandheld.bands import Band, last_band
from bandheld.errors import BadCount, BadManner, UnknownName
from bandheld.houses import House
from bandheld.links import Link
from bandheld.shakes import shake
from tests.helpers import ODD_VALUES, check_raises, example, flow, random_house
from tests.plain import plain_shake


def texts(rows):
    return [repr(row)[5:-1] for row in rows]


class Examples(unittest.TestCase):
    def test_falling(self):
        # At age 1 no note of the former manner is left at tick 1.
        rows = shake(example(1), "h", (ZERO, ONE), 3)
        self.assertEqual(texts(rows), ["a 2 to 2, b 1000 to 1000"] * 3)
        rows = shake(example(1), "g", (ZERO, ONE), 4)
        self.assertEqual(texts(rows), ["a 3 to 3, b 4 to 4"] + ["a 3 to 3, b 3 to 3"] * 3)

    def test_both_manners_are_heard(self):
        rows = shake(example(3), "g", (ZERO, ONE), 7)
        self.assertEqual(texts(rows), [
            "a 2 to 3, b 4 to 4", "a 2 to 3, b 3 to 4", "a 3 to 3, b 3 to 4", "a 3 to 3, b 3 to 4",
            "a 3 to 3, b 3 to 4", "a 3 to 3, b 3 to 3", "a 3 to 3, b 3 to 3",
        ])

    def test_rising(self):
        before = example(2).with_manner("g", (ZERO, ONE))
        self.assertEqual(repr(last_band(before)), "Band(a 3 to 3, b 3 to 3)")
        self.assertEqual(texts(shake(before, "g", (ZERO, TOP), 5)), [
            "a 2 to 3, b 3 to 3", "a 2 to 2, b 3 to 4", "a 2 to 2, b 3 to 4", "a 2 to 2, b 4 to 4",
            "a 2 to 2, b 4 to 4",
        ])

    def test_going(self):
        rows = shake(example(2), "g", (), 7)
        self.assertEqual(texts(rows), [
            "a 2 to 4, b 4 to 4", "a 4 to 4, b 3 to 4", "a 4 to 1000, b 3 to 4", "a 4 to 1000, b 3 to 3",
            "a 4 to 1000, b 3 to 3", "a 1000 to 1000, b 3 to 3", "a 1000 to 1000, b 3 to 3",
        ])

    def test_coming_back(self):
        gone = example(2).with_manner("g", ())
        self.assertEqual(repr(last_band(gone)), "Band(a 1000 to 1000, b 3 to 3)")
        self.assertEqual(texts(shake(gone, "g", (ZERO, TOP), 5)), [
            "a 2 to 1000, b 3 to 3", "a 2 to 2, b 3 to 4", "a 2 to 2, b 3 to 4", "a 2 to 2, b 4 to 4",
            "a 2 to 2, b 4 to 4",
        ])

    def test_no_change(self):
        for age in [1, 2, 12]:
            for house in [example(age), example(age).with_strange("h"), example(age).with_strange("b")]:
                self.assertEqual(shake(house, "g", (ZERO, TOP), 15), [last_band(house)] * 15)

    def test_both_manners_up_to_the_age(self):
        # With one link alone each row shows at once which manners count.
        for age in [1, 2, 5, 12]:
            house = House(age, Link("a", (4, 1)), flow("f", "a"), flow("g", "a"))
            rows = shake(house, "g", (ZERO, ONE), age + 2)
            self.assertEqual(texts(rows), ["a 2 to 3"] * (age - 1) + ["a 3 to 3"] * 3)

    def test_strangers_beside(self):
        house = House(
            3, Link("a", (4, 1)), Link("b", (6, 1)), Link("c", (2, 1), strange=True), flow("f", "a", "b"),
            flow("g", "a"), flow("h", "b", "c"), flow("s", "b", strange=True, cap=ONE),
        )
        self.assertEqual(repr(last_band(house)), "Band(a 2 to 2, b 3 to 1000, c 0 to 1000)")
        still = "b 4 to 1000, c 0 to 1000"
        self.assertEqual(texts(shake(house, "f", (ZERO, ONE), 4)), [
            "a 2 to 3, b 3 to 1000, c 0 to 1000", "a 2 to 3, b 5/2 to 1000, c 0 to 1000", "a 3 to 3, " + still,
            "a 3 to 3, " + still,
        ])

    def test_shaky_links(self):
        house = House(2, Link("a", (4, 1), low=(3, 1)), flow("f", "a"), flow("g", "a"))
        self.assertEqual(texts(shake(house, "f", (), 3)), ["a 3/2 to 4", "a 3 to 4", "a 3 to 4"])

    def test_counts_and_names(self):
        house = example(2)
        self.assertEqual(shake(house, "g", (), 0), [])
        rows = shake(ticks=400, manner=(ZERO, ONE), flow="g", house=house)
        self.assertEqual(len(rows), 400)
        self.assertEqual(rows[20:], [last_band(house.with_manner("g", (ZERO, ONE)))] * 380)
        self.assertEqual({row.__class__ for row in rows}, {Band})
        self.assertIs(rows.__class__, list)
        shake(house, "g", (), 3).clear()
        self.assertEqual(shake(house, "g", (), 3), shake(house, "g", (), 9)[:3])
        self.assertEqual(house, example(2))


class Refusals(unittest.TestCase):
    def test_unknown(self):
        for name in ODD_VALUES + ["x", "a", ("f",), 0]:
            check_raises(self, UnknownName, {"name": name}, shake, example(3), name, None, None)
        strange = example(3).with_strange("g")
        for manner in [(), None, (ZERO, (1001, 1))]:
            check_raises(self, UnknownName, {"name": "g"}, shake, strange, "g", manner, 3)
        check_raises(self, UnknownName, {"name": "f"}, shake, House(3), "f", (), 401)

    def test_bad_manner(self):
        house = example(3, least=ONE, cap=(3, 1))
        wrong = [((2, 1), (3, 1)), (ONE, (4, 1)), ((3, 2), ONE), [], [ONE, ONE], ONE, 3, (ONE, (2, 2))]
        for manner in ODD_VALUES + wrong:
            for ticks in [3, -1, None]:
                check_raises(self, BadManner, {"flow": "g"}, shake, house, "g", manner, ticks)
        self.assertEqual(len(shake(house, "g", (ONE, (3, 1)), 1)), 1)

    def test_bad_count(self):
        for ticks in ODD_VALUES + [-1, 401, 10 ** 9, (3, 1), "3"]:
            check_raises(self, BadCount, {"value": ticks}, shake, example(3), "g", (), ticks)


class Facts(unittest.TestCase):
    def test_any(self):
        rng = random.Random(62)
        ages = []
        for _ in range(90):
            house = random_house(rng, rng.choice([0, 0.2, 0.4]), rng.choice([0, 0.5]))
            house = House(rng.choice([1, 2, 3, 5, 12]), *house.links(), *house.flows())
            true = [part for part in house.flows() if not part.strange]
            if not true:
                continue
            part = rng.choice(true)
            manner = rng.choice([(), (ZERO, part.cap), (part.least, part.least), (ZERO, ZERO), part.manner])
            ticks = rng.choice([1, house.age - 1, house.age, 3 * house.age + 1, 20])
            rows = shake(house, part.name, manner, ticks)
            self.assertEqual([(row.lows(), row.highs()) for row in rows], plain_shake(house, part.name, manner, ticks))
            ages.append(house.age)
        self.assertEqual(sorted(set(ages)), [1, 2, 3, 5, 12])

    def test_at_rest(self):
        rng = random.Random(63)
        for _ in range(40):
            house = random_house(rng, 0.2, 0.3)
            house = House(2, *house.links(), *house.flows())
            for part in house.flows():
                if not part.strange:
                    manner = rng.choice([(), (ZERO, part.cap), (part.least, part.least)])
                    rest = last_band(house.with_manner(part.name, manner))
                    self.assertEqual(shake(house, part.name, manner, 30)[-1], rest)


if __name__ == "__main__":
    unittest.main()
