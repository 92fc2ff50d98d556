import itertools
import random
import unittest

from bandheld.amounts import ONE, TOP, ZERO
from bandheld.boxes import floor_of
from bandheld.errors import BadCount, UnknownHop, UnknownName
from bandheld.flows import Flow
from bandheld.houses import House
from bandheld.links import Link
from bandheld.plans import fewest_breakers, need_of, subsets, with_needs
from tests.helpers import HOUSE, LINK, ODD_VALUES, check_raises, flow, fraction, pair, random_house


def star(**manners):
    """One link of the capacity 12, and four flows that wish little but may wish more."""
    flows = [flow(name, "a", cap=(6, 1), manner=manners.get(name, (ZERO, ONE))) for name in "ghi"]
    return House(2, Link("a", (12, 1)), flow("f", "a"), *flows)


class Subsets(unittest.TestCase):
    def test_lists(self):
        self.assertEqual(list(subsets(["b", "a", "c"], 2)), [
            (), ("a",), ("b",), ("c",), ("a", "b"), ("a", "c"), ("b", "c"),
        ])
        self.assertEqual(list(subsets(["a", "b"], 2)), [(), ("a",), ("b",), ("a", "b")])
        self.assertEqual(list(subsets(("b", "a"), 9)), [(), ("a",), ("b",), ("a", "b")])
        self.assertEqual(list(subsets(most=1, names=["b"])), [(), ("b",)])

    def test_none(self):
        for most in [0, 1, 5]:
            self.assertEqual(list(subsets([], most)), [()])
        self.assertEqual(list(subsets(["a", "b"], 0)), [()])

    def test_any(self):
        rng = random.Random(59)
        letters = list("bacdefgh")
        for many in range(9):
            for most in range(11):
                names = rng.sample(letters, many)
                before = list(names)
                told = [
                    chosen for length in range(most + 1) for chosen in itertools.combinations(sorted(names), length)
                ]
                self.assertEqual(list(subsets(names, most)), told)
                self.assertEqual(names, before)

    def test_one_by_one(self):
        names = [letter + further for letter in "abcdefghijklmnopqrst" for further in "abcdefghij"]
        told = subsets(names, 200)
        self.assertEqual([next(told) for _ in range(202)][-2:], [("tj",), ("aa", "ab")])


class Breakers(unittest.TestCase):
    def test_none_and_all(self):
        house = star()
        self.assertEqual(floor_of(house, "f"), (9, 1))
        self.assertEqual(fewest_breakers(house, "f", (10, 1), among=[]), [])
        self.assertEqual(fewest_breakers(house, "f", (109, 12), among=["h", "g"]), [])
        self.assertIs(fewest_breakers(house, "f", (9, 1), among=[]), None)
        self.assertIs(fewest_breakers(house, "f", ZERO, among=["g", "h", "i"]), None)
        self.assertIs(fewest_breakers(house, "f", (3, 1), among=["g", "h", "i"]), None)

    def test_fewest(self):
        house = star()
        self.assertEqual(floor_of(house.with_strange("g"), "f"), (5, 1))
        self.assertEqual(floor_of(house.with_strange("g", "i"), "f"), (11, 3))
        self.assertEqual(floor_of(house.with_strange("g", "h", "i"), "f"), (3, 1))
        for amount_of, told in [
            ((9, 1), ["g"]), ((61, 12), ["g"]), ((5, 1), ["g", "h"]), ((15, 4), ["g", "h"]),
            ((11, 3), ["g", "h", "i"]), ((37, 12), ["g", "h", "i"]), ((3, 1), None),
        ]:
            for among in [["g", "h", "i"], ("i", "h", "g"), ["h", "i", "g", "h", "i"]]:
                self.assertEqual(fewest_breakers(house, "f", amount_of, among=among), told)
        self.assertEqual(fewest_breakers(house, "f", (5, 1), among=["i", "h"]), ["h", "i"])
        self.assertEqual(fewest_breakers(house, "f", (5, 1), among=["i", "g"]), ["g", "i"])

    def test_first_of_several(self):
        house = star(g=(ZERO, (6, 1)))
        self.assertEqual(fewest_breakers(house, "f", (5, 1), among=["i", "h", "g"]), ["h"])
        self.assertEqual(fewest_breakers(house, "f", (11, 3), among=["i", "h", "g"]), ["h", "i"])
        self.assertIs(fewest_breakers(house, "f", (11, 3), among=["h", "g"]), None)

    def test_most(self):
        house = star()
        self.assertIs(fewest_breakers(house, "f", (9, 1), among=["g"], most=0), None)
        self.assertEqual(fewest_breakers(house, "f", TOP, among=["g"], most=0), [])
        self.assertIs(fewest_breakers(house, "f", (5, 1), among=["g", "h", "i"], most=1), None)
        self.assertEqual(fewest_breakers(house, "f", (5, 1), among=["g", "h", "i"], most=2), ["g", "h"])
        self.assertEqual(fewest_breakers(house, "f", (11, 3), among=["g", "h", "i"], most=5), ["g", "h", "i"])
        flows = [flow(name, "a", cap=(6, 1), manner=(ZERO, ONE)) for name in "ghijk"]
        wide = House(2, Link("a", (12, 1)), flow("f", "a"), *flows)
        self.assertEqual(floor_of(wide.with_strange(*"ghij"), "f"), (11, 5))
        self.assertEqual(fewest_breakers(wide, "f", (11, 5), among=list("kjihg"), most=5), list("ghijk"))
        self.assertIs(fewest_breakers(wide, "f", (11, 5), among=list("kjihg"), most=4), None)
        self.assertEqual(fewest_breakers(wide, "f", (9, 4), among=list("kjihg"), most=4), list("ghij"))
        self.assertIs(fewest_breakers(wide, "f", (9, 4), among=list("kjihg")), None)

    def test_strange_already(self):
        house = star().with_strange("h")
        self.assertEqual(fewest_breakers(house, "f", (9, 1), among=["h", "g"]), [])
        self.assertEqual(fewest_breakers(house, "f", (5, 1), among=["h", "g"]), ["g"])
        self.assertIs(fewest_breakers(house, "f", (5, 1), among=["h"]), None)

    def test_gone(self):
        house = star().with_manner("f", ())
        self.assertEqual(fewest_breakers(house, "f", ONE, among=["g"]), [])
        self.assertIs(fewest_breakers(house, "f", ZERO, among=["g", "h", "i"]), None)

    def test_what_is_passed_stays(self):
        among = ["i", "g", "i"]
        fewest_breakers(floor=(5, 1), flow="f", house=star(), among=among)
        self.assertEqual(among, ["i", "g", "i"])

    def test_by_keyword_alone(self):
        with self.assertRaises(TypeError):
            fewest_breakers(star(), "f", ONE, ["g"])
        with self.assertRaises(TypeError):
            fewest_breakers(star(), "f", ONE)

    def test_unknown_flow(self):
        for name in ODD_VALUES + ["x", "a", ("f",), 0]:
            check_raises(self, UnknownName, {"name": name}, fewest_breakers, star(), name, ONE, among=[None], most=9)
        check_raises(
            self, UnknownName, {"name": "f"}, fewest_breakers, star().with_strange("f"), "f", ONE, among=["x"], most=9)

    def test_unknown_among(self):
        for name in ODD_VALUES + ["x", "a", "f", ("g",), 0]:
            for among in [[name], ["g", name, "y"], ("g", "h", name, None)]:
                check_raises(self, UnknownName, {"name": name}, fewest_breakers, star(), "f", ONE, among=among, most=9)
                check_raises(self, UnknownName, {"name": name}, fewest_breakers, star(), "f", TOP, among=among, most=0)

    def test_bad_count(self):
        for most in ODD_VALUES + [-1, 6, 10 ** 9, (3, 1), "3"]:
            check_raises(self, BadCount, {"value": most}, fewest_breakers, star(), "f", TOP, among=["g"], most=most)

    def test_any(self):
        rng = random.Random(60)
        found = []
        for _ in range(8):
            house = crowd(rng)
            others = [part.name for part in house.flows() if part.name != "f"]
            chosen = {
                more: fraction(floor_of(house.with_strange(*more), "f"))
                for length in range(6) for more in itertools.combinations(others, length)
            }
            for goal in sorted(set(chosen.values())):
                told = [list(more) for more in chosen if chosen[more] < goal]
                for most in [0, 2, 3, 5]:
                    right = [more for more in told if len(more) <= most]
                    rng.shuffle(others)
                    made = fewest_breakers(house, "f", pair(goal), among=others, most=most)
                    self.assertEqual(made, right[0] if right else None)
                    found.append(made)
        self.assertIn(None, found)
        self.assertGreaterEqual(max([len(made or []) for made in found]), 4)


def crowd(rng):
    """A house in which four or five flows beside f wish less than they may."""
    flows = [flow("f", *rng.sample("ab", 2), weight=rng.randint(1, 3))]
    for name in "ghijk"[:rng.randint(4, 5)]:
        cap = (rng.randint(1, 4), 1)
        route = rng.sample("ab", rng.randint(1, 2))
        flows.append(flow(name, *route, weight=rng.randint(1, 3), cap=cap, manner=(ZERO, pair(fraction(cap) / 4))))
    return House(1, Link("a", (rng.randint(8, 12), 1)), Link("b", (rng.randint(8, 12), 1)), *flows)


def needy(**marks):
    """A house with one flow of each kind over links with the ways 2 and 5."""
    return House(
        3,
        Link("a", (8, 1), way=2),
        Link("b", (6, 1), way=5),
        flow("e", "a", "b", kind="eager", way=4, **marks),
        flow("l", "b", "a", way=7, **marks),
        flow("p", "a", kind="probe", size=3, **marks),
        flow("w", "b", "a", kind="window", size=(20, 1), way=11, **marks),
    )


class Needs(unittest.TestCase):
    def test_kinds(self):
        house = needy()
        self.assertEqual([floor_of(house, name) for name in "elpw"], [(2, 1)] * 4)
        self.assertEqual([need_of(house, "e", hop) for hop in range(3)], [(14, 1), (10, 1), None])
        self.assertEqual([need_of(house, "l", hop) for hop in range(3)], [(20, 1), (16, 1), None])
        self.assertEqual([need_of(house, "p", hop) for hop in range(2)], [None, None])
        self.assertEqual([need_of(house, "w", hop) for hop in range(3)], [(42, 1), None, None])
        self.assertEqual(need_of(hop=0, flow="e", house=house), (14, 1))

    def test_example_of_a_window(self):
        house = House(3, Link("a", (5, 2), way=2), flow("f", "a", kind="window", size=(14, 1)))
        self.assertEqual((house.length("f"), need_of(house, "f", 0)), (3, (15, 1)))

    def test_gone(self):
        house = needy(manner=())
        self.assertEqual([need_of(house, "e", hop) for hop in range(3)], [ZERO, ZERO, None])
        self.assertEqual([need_of(house, "l", hop) for hop in range(3)], [ZERO, ZERO, None])
        self.assertEqual([need_of(house, "p", hop) for hop in range(2)], [None, None])
        self.assertEqual([need_of(house, "w", hop) for hop in range(3)], [ZERO, None, None])

    def test_not_clear(self):
        ranks = House(1, Link("a", ONE, discipline="ranks"), Link("b", ONE), flow("f", "a", "b"), flow("g", "b"))
        self.assertEqual([need_of(ranks, "f", hop) for hop in range(3)], [None] * 3)
        self.assertEqual([need_of(ranks, "g", hop) for hop in range(2)], [ONE, None])
        for house in [needy(strange=True), needy().with_strange("a", "b")]:
            for name in "elw":
                self.assertEqual([need_of(house, name, hop) for hop in range(3)], [None] * 3)
        spare = House(1, Link("a", (5, 2), discipline="spare", low=(3, 2)), flow("f", "a", way=2))
        self.assertEqual([need_of(spare, "f", hop) for hop in range(2)], [(9, 2), None])

    def test_unknown(self):
        for name in ODD_VALUES + ["x", "a", 0]:
            check_raises(self, UnknownName, {"name": name}, need_of, needy(), name, None)
        for house in [needy(), needy(strange=True), needy(manner=())]:
            for name, beyond in [("e", 3), ("l", 3), ("p", 2), ("w", 3)]:
                for hop in ODD_VALUES + [-1, beyond, 10 ** 9, (0, 1), "0"]:
                    check_raises(self, UnknownHop, {"hop": hop}, need_of, house, name, hop)

    def test_with_needs(self):
        house = needy()
        fitted = with_needs(house)
        self.assertEqual(fitted.flow_of("e").buffers, ((14, 1), (10, 1)))
        self.assertEqual(fitted.flow_of("l").buffers, ((20, 1), (16, 1)))
        self.assertEqual(fitted.flow_of("p"), house.flow_of("p"))
        self.assertEqual((fitted.flow_of("w").buffers, fitted.flow_of("w").size), (((42, 1), (42, 1)), (42, 1)))
        self.assertEqual((fitted.links(), fitted.age), (house.links(), 3))
        self.assertEqual(house, needy())
        self.assertEqual(with_needs(house=fitted), fitted)
        gone = with_needs(needy(manner=()))
        self.assertEqual((gone.flow_of("w").buffers, gone.flow_of("w").size), ((ZERO, ZERO), ZERO))
        self.assertEqual(gone.flow_of("l").buffers, (ZERO, ZERO))
        for left in [needy(strange=True), House(4), HOUSE.with_strange("a")]:
            self.assertEqual(with_needs(left), left)
        self.assertEqual(with_needs(House(2, LINK, flow("f", "a", way=20))).flow_of("f").buffers, ((88, 1),))

    def test_large(self):
        route = list("abcde")
        links = [Link(name, TOP, way=20) for name in route]
        house = House(12, *links, Flow("f", route, [ZERO] * 5, kind="window", size=ZERO, way=20))
        self.assertEqual(need_of(house, "f", 0), (132000, 1))
        self.assertEqual(with_needs(house).flow_of("f").size, (132000, 1))

    def test_any(self):
        rng = random.Random(61)
        for _ in range(80):
            house = random_house(rng, 0.15, 0.3)
            fitted = with_needs(house)
            for part in house.flows():
                needs = [need_of(house, part.name, hop) for hop in range(part.last + 1)]
                told = [None] * (part.last + 1)
                made = part
                if house.is_clear(part.name):
                    floor = fraction(floor_of(house, part.name))
                    if part.kind in ("level", "eager"):
                        ways = [part.way] + [house.link_of(link).way for link in part.route]
                        told[:-1] = [pair(floor * (way + house.age)) for way in ways[:-1]]
                        made = part.with_buffers(told[:-1])
                    if part.kind == "window":
                        told[0] = pair(floor * (house.length(part.name) + house.age))
                        made = part.with_buffers(told[:1] * part.last, told[0])
                self.assertEqual(needs, told)
                self.assertEqual(fitted.flow_of(part.name), made)
            self.assertEqual(fitted.links(), house.links())


if __name__ == "__main__":
    unittest.main()
