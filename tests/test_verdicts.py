import random
import unittest
from collections import Counter

from bandheld.amounts import ONE, TOP, ZERO
from bandheld.bands import Band, bands, last_band, settling
from bandheld.boxes import floor_of, is_box
from bandheld.errors import BadAmount, UnknownName, Unseen
from bandheld.houses import House
from bandheld.links import Link
from bandheld.verdicts import Broken, Kept, is_right, verdict
from tests.helpers import HOUSE, ODD_VALUES, check_raises, example, flow, fraction, pair
from tests.runs import drawn_house, stepped_swing


def is_broken_at(house, name, floor, turns):
    """Whether a swing of so many turns, played to its end, has an allotment below the floor in its last tick."""
    world = stepped_swing(house, turns)
    return any([
        fraction(world.allotment_at(name, link, world.now - 1)) < fraction(floor)
        for link in house.flow_of(name).route if not house.link_of(link).strange
    ])


def wide(house):
    """The widest box of a house."""
    links = [link.name for link in house.links()]
    return Band(house, {link: ZERO for link in links}, {link: TOP for link in links})


class Classes(unittest.TestCase):
    def test_attributes_and_truth(self):
        band = last_band(example(2))
        kept = Kept("f", (2, 1), band)
        self.assertEqual((kept.flow, kept.floor), ("f", (2, 1)))
        self.assertIs(kept.band, band)
        broken = Broken(turns=7, floor=(5, 2), flow="f")
        self.assertEqual((broken.flow, broken.floor, broken.turns), ("f", (5, 2), 7))
        self.assertEqual((bool(kept), bool(broken), bool(Kept(band=0, floor=0, flow=0))), (True, False, True))
        for value in ODD_VALUES:
            for made, third in [(Kept(value, value, value), "band"), (Broken(value, value, value), "turns")]:
                for name in ["flow", "floor", third]:
                    self.assertIs(getattr(made, name), value)
                self.assertIsInstance(repr(made), str)

    def test_equal(self):
        band = last_band(example(2))
        for made, third in [(Kept, band), (Broken, 7)]:
            one = made("f", (2, 1), third)
            self.assertTrue(one == made("f", (2, 1), third))
            self.assertFalse(one != made("f", (2, 1), third))
            for other in [
                made("g", (2, 1), third), made("f", (3, 1), third), made("f", (2, 1), None), None, "f", (2, 1), HOUSE, third,
                ("f", (2, 1), third), {Kept: Broken, Broken: Kept}[made]("f", (2, 1), third),
            ]:
                self.assertFalse(one == other)
                self.assertFalse(other == one)
                self.assertTrue(one != other)
        self.assertTrue(Kept([1], None, HOUSE) == Kept([1], None, HOUSE))

    def test_repr(self):
        band = last_band(example(2))
        self.assertEqual(repr(Kept("f", (5, 2), band)), "Kept(f, 5/2)")
        self.assertEqual(repr(Kept("flow", (4, 1), None)), "Kept(flow, 4)")
        self.assertEqual(repr(Broken("f", (5, 2), 7)), "Broken(f, 5/2, 7)")
        self.assertEqual(repr(Broken("g", ZERO, 400)), "Broken(g, 0, 400)")


class Verdicts(unittest.TestCase):
    def test_just_at_below_and_above(self):
        house = example(3)
        for name, floor in [("f", (2, 1)), ("g", (2, 1)), ("h", (4, 1))]:
            self.assertEqual(verdict(house, name, floor), Kept(name, floor, last_band(house)))
            below = pair(fraction(floor) - fraction((1, 10 ** 9)))
            above = pair(fraction(floor) + fraction((1, 10 ** 9)))
            self.assertEqual(verdict(house, name, below), Kept(name, below, last_band(house)))
            self.assertEqual(verdict(house, name, ZERO), Kept(name, ZERO, last_band(house)))
            found = verdict(house, name, above)
            self.assertEqual((found, found.__class__), (Broken(name, above, settling(house) + 2), Broken))
            self.assertEqual(verdict(floor=above, flow=name, house=house), found)

    def test_the_example_with_a_stranger(self):
        house = example(2, strange=True)
        self.assertEqual(verdict(house, "h", (3, 1)), Kept("h", (3, 1), last_band(house)))
        # The level of link b is 3 in the turns with the side low, of which number 2 is one.
        self.assertEqual(verdict(house, "h", (4, 1)), Broken("h", (4, 1), 3))
        self.assertEqual(verdict(house, "f", (4, 1)), Broken("f", (4, 1), 3))
        self.assertEqual([is_right(house, Broken("h", (4, 1), turns)) for turns in range(8)],
                         [False] * 3 + [True, False] * 2 + [True])

    def test_gone_flows(self):
        house = example(2).with_manner("g", ())
        self.assertEqual(verdict(house, "g", ZERO), Kept("g", ZERO, last_band(house)))
        found = verdict(house, "g", (1, 10 ** 9))
        self.assertEqual((found, is_right(house, found)), (Broken("g", (1, 10 ** 9), settling(house) + 2), True))

    def test_gone_flows_where_all_is_settled_at_once(self):
        # In the first turn of the swing the flow is heard with its cap, behind it as gone.
        house = House(3, Link("a", TOP), flow("f", "a", cap=ONE, manner=()))
        self.assertEqual((settling(house), verdict(house, "f", (1, 2))), (0, Broken("f", (1, 2), 2)))
        told = [is_right(house, Broken("f", (1, 2), turns)) for turns in range(6)]
        self.assertEqual(told, [False, False, True, True, True, True])

    def test_both_numbers_of_turns(self):
        rng = random.Random(131)
        seen = Counter()
        for _ in range(40):
            house = drawn_house(rng, 0.3, 0.4, age=rng.randint(1, 2))
            settled = settling(house) + 2
            for part in house.flows():
                true = [link for link in part.route if not house.link_of(link).strange]
                if part.strange or not true:
                    continue
                floor = fraction(floor_of(house, part.name))
                for more in [fraction((1, 7)), fraction((5, 2))]:
                    found = verdict(house, part.name, pair(floor + more))
                    self.assertIs(found.__class__, Broken)
                    turns = [at for at in range(settled, settled + 4)
                             if is_broken_at(house, part.name, found.floor, at)]
                    self.assertEqual(found.turns, turns[0])
                    for at in range(settled + 4):
                        told = Broken(part.name, found.floor, at)
                        self.assertIs(is_right(house, told), at in turns)
                    seen[found.turns - settled, len(true) == len(part.route)] += 1
                for less in [floor, floor / 2]:
                    found = verdict(house, part.name, pair(less))
                    self.assertEqual(found, Kept(part.name, pair(less), last_band(house)))
                    self.assertIs(is_right(house, found), True)
        self.assertEqual({turns for turns, _ in seen}, {0, 1})
        self.assertGreater(len(seen), 2)

    def test_errors_in_their_order(self):
        house = House(
            2, Link("a", (4, 1)), Link("b", (4, 1), strange=True), flow("f", "a", "b"), flow("u", "b"),
            flow("s", "a", strange=True))
        for name in ODD_VALUES + ["x", "a", "s", ("f",), ["f"], 0]:
            for floor in [ONE, None]:
                check_raises(self, UnknownName, {"name": name}, verdict, house, name, floor)
        for floor in [ONE, None, 5]:
            check_raises(self, Unseen, {"flow": "u"}, verdict, house, "u", floor)
        for floor in ODD_VALUES + [1, [1, 1], (2, 2), (-1, 1), ()]:
            check_raises(self, BadAmount, {"value": floor}, verdict, house, "f", floor)
        self.assertEqual(verdict(house, "f", ZERO), Kept("f", ZERO, last_band(house)))


class Right(unittest.TestCase):
    def test_any_value(self):
        for value in ODD_VALUES + ["Kept", ("f", (2, 1), last_band(example(2))), 5]:
            self.assertIs(is_right(example(2), value), False)

    def test_parts_of_any_kind(self):
        house = example(2)
        band = last_band(house)
        odd = [value for value in ODD_VALUES if value not in ((0, 1), (1, 1))]
        self.assertIs(is_right(house, Kept("f", (2, 1), band)), True)
        self.assertIs(is_right(house, Broken("f", (5, 2), 4)), True)
        for value in odd + ["x", "a", ("f",)]:
            self.assertIs(is_right(house, Kept(value, (2, 1), band)), False)
            self.assertIs(is_right(house, Broken(value, (5, 2), 4)), False)
        for value in odd + [2, (4, 2), [2, 1]]:
            self.assertIs(is_right(house, Kept("f", value, band)), False)
            self.assertIs(is_right(house, Broken("f", value, 4)), False)
        for value in odd + [4, band.lows(), house]:
            self.assertIs(is_right(house, Kept("f", (2, 1), value)), False)
        for value in odd + [-1, 401, 10 ** 9, "4", (4, 1), [4], band]:
            self.assertIs(is_right(house, Broken("f", (5, 2), value)), False)

    def test_strange_and_unseen_flows(self):
        house = House(
            2, Link("a", (4, 1)), Link("b", (4, 1), strange=True), flow("f", "a"), flow("u", "b"),
            flow("s", "a", strange=True))
        for name in ["u", "s"]:
            self.assertIs(is_right(house, Kept(name, ZERO, last_band(house))), False)
            self.assertIs(is_right(house, Broken(name, TOP, 4)), False)
        self.assertIs(is_right(verdict=Kept("f", ZERO, last_band(house)), house=house), True)

    def test_boxes(self):
        house = example(2)
        for band in bands(house):
            least = band.least_low(["a", "b"])
            self.assertIs(is_right(house, Kept("f", least, band)), True)
            self.assertIs(is_right(house, Kept("f", pair(fraction(least) + 1), band)), False)
        self.assertIs(is_right(house, Kept("f", ZERO, wide(house))), True)
        self.assertIs(is_right(house, Kept("f", (1, 9), wide(house))), False)
        # No box: the low end of link a is too high.
        band = Band(house, {"a": (3, 1), "b": (3, 1)}, {"a": TOP, "b": TOP})
        self.assertIs(is_box(house, band), False)
        self.assertIs(is_right(house, Kept("f", (2, 1), band)), False)

    def test_bands_of_other_links(self):
        house = example(2)
        other = House(2, Link("a", (4, 1)), Link("c", (6, 1)), flow("f", "a", "c"), flow("g", "a"), flow("h", "c"))
        more = House(2, *house.links(), *house.flows(), Link("c", (6, 1)), flow("i", "c"))
        fewer = House(2, Link("a", (4, 1)), flow("f", "a"), flow("g", "a"))
        for wrong in [other, more, fewer, House(2)]:
            self.assertIs(is_right(house, Kept("f", ZERO, last_band(wrong))), False)
            self.assertIs(is_right(house, Kept("f", ZERO, wide(wrong))), False)

    def test_ends_at_strange_links(self):
        house = example(2).with_strange("b")
        self.assertIs(is_right(house, Kept("g", (2, 1), last_band(house))), True)
        true = example(2)
        for low, high, told in [(ZERO, TOP, True), (ZERO, (6, 1), False), (ONE, TOP, False)]:
            band = Band(true, {"a": (2, 1), "b": low}, {"a": TOP, "b": high})
            self.assertIs(is_right(house, Kept("g", (2, 1), band)), told)

    def test_least_share(self):
        # What is promised stands even where the low end of a link is 0.
        house = House(1, Link("a", (4, 1), strange=True), Link("b", (4, 1)), flow("f", "a", "b", least=ONE))
        self.assertIs(is_right(house, Kept("f", ONE, last_band(house))), True)
        self.assertIs(is_right(house, Kept("f", (2, 1), last_band(house))), False)

    def test_turns(self):
        house = example(2)
        settled = settling(house) + 2
        for turns in [0, 1, settled - 1]:
            self.assertIs(is_right(house, Broken("f", (5, 2), turns)), False)
        # The levels have settled, so f has 2 in each turn.
        for turns in [settled, settled + 1, 57, 58, 399, 400]:
            self.assertIs(is_right(house, Broken("f", (5, 2), turns)), True)
            self.assertIs(is_right(house, Broken("f", (2, 1), turns)), False)

    def test_many_turns(self):
        house = example(1, strange=True)
        for turns in [39, 40]:
            told = is_broken_at(house, "h", (4, 1), turns)
            self.assertEqual(is_right(house, Broken("h", (4, 1), turns)), told)
            self.assertEqual(told, turns == 39)

    def test_right_ones_tell_the_truth(self):
        rng = random.Random(132)
        for _ in range(40):
            house = drawn_house(rng, 0.3, 0.4)
            for part in house.flows():
                if part.strange or all([house.link_of(link).strange for link in part.route]):
                    continue
                floor = fraction(floor_of(house, part.name))
                for amount in [floor, floor + fraction((1, 3)), floor * fraction((2, 3))]:
                    for band in bands(house):
                        if is_right(house, Kept(part.name, pair(amount), band)):
                            self.assertLessEqual(amount, floor)
                    found = verdict(house, part.name, pair(amount))
                    self.assertEqual((bool(found), is_right(house, found)), (amount <= floor, True))


if __name__ == "__main__":
    unittest.main()
