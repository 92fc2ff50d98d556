import random
import unittest
from fractions import Fraction

from bandheld.amounts import ONE, TOP, ZERO
from bandheld.errors import BadSharing, NotPlain
from bandheld.fairness import check_sharing, fits, is_fair
from bandheld.filling import fill
from bandheld.houses import House
from bandheld.links import Link
from tests.helpers import FLOW, ODD_VALUES, check_raises, example, flow, fraction, pair, random_house

CALLS = [check_sharing, fits, is_fair]


def sharing_of(text):
    """A sharing from a text such as f 2, g 5/2."""
    words = [word.split() for word in text.split(", ")]
    return {name: pair(Fraction(amount)) for name, amount in words}


def plain_fits(house, got):
    for part in house.flows():
        low, high = [fraction(wish) for wish in part.manner or (ZERO, ZERO)]
        if not low <= got[part.name] <= high:
            return False
    return all([
        sum([got[name] for name in house.on(link.name)]) <= fraction(link.capacity) for link in house.links()
    ])


def plain_fair(house, got):
    if not plain_fits(house, got):
        return False
    for part in house.flows():
        if part.manner == () or got[part.name] == fraction(part.manner[1]):
            continue
        reasons = []
        for link in part.route:
            rivals = [house.flow_of(name) for name in house.on(link)]
            full = sum([got[rival.name] for rival in rivals]) == fraction(house.link_of(link).capacity)
            reasons.append(full and all([
                got[rival.name] / rival.weight <= got[part.name] / part.weight
                for rival in rivals if rival.manner != () and got[rival.name] > fraction(rival.manner[0])
            ]))
        if not any(reasons):
            return False
    return True


class Refusals(unittest.TestCase):
    def test_not_plain(self):
        shaky = House(3, Link("a", ONE, low=(1, 2)), FLOW)
        for house in [example().with_strange("a"), example().with_strange("h"), shaky]:
            for call in CALLS:
                for sharing in [None, {}, {"f": 3}, sharing_of("f 0, g 0, h 0"), fill(example())]:
                    check_raises(self, NotPlain, {}, call, house, sharing)

    def test_no_dicts(self):
        for sharing in ODD_VALUES + [fill(example()), [("f", ONE), ("g", ONE), ("h", ONE)], ["f", "g", "h"], "fgh", 3]:
            for call in CALLS:
                check_raises(self, BadSharing, {"name": None}, call, example(), sharing)

    def test_other_keys(self):
        right = sharing_of("f 1, g 1, h 1")
        for key in [None, True, 0, "a", "F", ("g",), "f ", 7]:
            instead = {"f": ONE, "g": ONE, key: ONE}
            more = dict(right)
            more[key] = ONE
            for sharing in [instead, more, {key: None}]:
                for call in CALLS:
                    check_raises(self, BadSharing, {"name": None}, call, example(), sharing)
        for call in CALLS:
            check_raises(self, BadSharing, {"name": None}, call, example(), {})
            check_raises(self, BadSharing, {"name": None}, call, example(), {"g": ONE, "h": None})
            check_raises(self, BadSharing, {"name": None}, call, House(3), right)

    def test_no_amounts(self):
        wrong = [value for value in ODD_VALUES] + [1, -1, [1, 1], {"f": ONE}, (0, 3), ((1, 1), (1, 1))]
        for value in wrong:
            for call in CALLS:
                check_raises(self, BadSharing, {"name": "f"}, call, example(), {"h": value, "g": value, "f": value})
                check_raises(self, BadSharing, {"name": "g"}, call, example(), {"h": value, "g": value, "f": TOP})
                check_raises(self, BadSharing, {"name": "h"}, call, example(), {"h": value, "g": ONE, "f": ZERO})

    def test_what_is_passed_stays(self):
        for sharing in [sharing_of("f 2, g 2, h 4"), sharing_of("h 9, g 0, f 0")]:
            before = list(sharing.items())
            for call in CALLS:
                call(example(), sharing)
            self.assertEqual(list(sharing.items()), before)
        wrong = {"h": None, "f": ONE, "g": ONE}
        for call in CALLS:
            check_raises(self, BadSharing, {"name": "h"}, call, example(), wrong)
        self.assertEqual(list(wrong.items()), [("h", None), ("f", ONE), ("g", ONE)])


class Examples(unittest.TestCase):
    def check(self, house, text, fitting, fair):
        sharing = sharing_of(text)
        self.assertIs(check_sharing(house, sharing), None)
        self.assertIs(fits(house, sharing), fitting, text)
        self.assertIs(is_fair(house, sharing), fair, text)

    def test_example(self):
        house = example()
        self.check(house, "f 2, g 2, h 4", True, True)
        for text in ["f 0, g 4, h 6", "f 2, g 2, h 3", "f 1, g 3, h 5", "f 3, g 1, h 3", "f 0, g 0, h 0",
                     "f 2, g 23/12, h 4", "f 4, g 0, h 2"]:
            self.check(house, text, True, False)
        for text in ["f 2, g 2, h 49/12", "f 2, g 25/12, h 4", "f 5, g 0, h 0", "f 0, g 0, h 7"]:
            self.check(house, text, False, False)

    def test_by_name(self):
        sharing = sharing_of("f 2, g 2, h 4")
        self.assertIs(check_sharing(house=example(), sharing=sharing), None)
        self.assertIs(fits(house=example(), sharing=sharing), True)
        self.assertIs(is_fair(sharing=sharing, house=example()), True)

    def test_gone(self):
        house = example().with_manner("f", ())
        self.check(house, "f 0, g 4, h 6", True, True)
        self.check(house, "f 1/12, g 3, h 5", False, False)
        self.check(house, "f 0, g 3, h 6", True, False)
        every = house.with_manner("g", ()).with_manner("h", ())
        self.check(every, "f 0, g 0, h 0", True, True)
        self.check(every, "f 0, g 0, h 1", False, False)

    def test_nobody(self):
        self.assertIs(check_sharing(House(1), {}), None)
        self.assertIs(fits(House(1), {}), True)
        self.assertIs(is_fair(House(1), {}), True)

    def test_least_and_greatest_wishes(self):
        house = House(1, Link("a", (6, 1)), flow("f", "a", least=(3, 1)), flow("g", "a", cap=ONE), flow("h", "a"))
        self.check(house, "f 3, g 1, h 2", True, True)
        self.check(house, "f 3, g 3/2, h 3/2", False, False)
        self.check(house, "f 5/2, g 1, h 5/2", False, False)
        self.check(house, "f 3, g 1/2, h 5/2", True, False)
        self.check(house, "f 7/2, g 1, h 3/2", True, False)
        self.check(house, "f 3, g 1, h 23/12", True, False)

    def test_more_than_the_least_wish(self):
        parts = [flow("f", "a", least=(3, 1)), flow("g", "a")]
        self.check(House(1, Link("a", (4, 1)), *parts), "f 3, g 1", True, True)
        self.check(House(1, Link("a", (4, 1)), *parts), "f 37/12, g 11/12", True, False)
        self.check(House(1, Link("a", (6, 1)), *parts), "f 3, g 3", True, True)
        self.check(House(1, Link("a", (7, 1)), *parts), "f 7/2, g 7/2", True, True)
        self.check(House(1, Link("a", (7, 1)), *parts), "f 4, g 3", True, False)

    def test_just_full(self):
        parts = [flow("f", "a", cap=(3, 1)), flow("g", "a", cap=ONE)]
        for capacity, fair in [((4, 1), True), ((5, 1), True)]:
            self.check(House(1, Link("a", capacity), *parts), "f 3, g 1", True, fair)
        self.check(House(1, Link("a", (47, 12)), *parts), "f 3, g 1", False, False)
        self.check(House(1, Link("a", (47, 12)), *parts), "f 35/12, g 1", True, True)
        leasts = [flow("f", "a", least=(3, 1)), flow("g", "a", least=ONE)]
        self.check(House(1, Link("a", (4, 1)), *leasts), "f 3, g 1", True, True)

    def test_weights(self):
        house = House(1, Link("a", (4, 1)), flow("f", "a", weight=3), flow("g", "a"))
        self.check(house, "f 3, g 1", True, True)
        self.check(house, "f 2, g 2", True, False)
        self.check(house, "f 10/3, g 2/3", True, False)

    def test_one_link_must_have_both(self):
        parts = [
            flow("f", "a", "b"), flow("g", "a", manner=(ZERO, (3, 2))), flow("h", "b", manner=(ZERO, (1, 2))),
        ]
        house = House(1, Link("a", (2, 1)), Link("b", (6, 1)), *parts)
        self.check(house, "f 1, g 1, h 1/2", True, True)
        # The link a is full, but g has more than f there; at b nobody has more, but there is room.
        self.check(house, "f 1/2, g 3/2, h 1/2", True, False)
        both = House(1, Link("a", (3, 1)), Link("b", (3, 1)), flow("f", "a", "b"), flow("g", "a"), flow("h", "b"))
        # Each link alone is full, but at each of them somebody has more than f.
        self.check(both, "f 1, g 2, h 2", True, False)
        self.check(both, "f 3/2, g 3/2, h 3/2", True, True)


class Fair(unittest.TestCase):
    def sharings(self, rng, house):
        """Sharings near to the filling and far from it, as fractions."""
        fair = {name: fraction(value) for name, value in fill(house).shares().items()}
        yield fair
        yield {name: fraction(house.flow_of(name).manner[0]) if house.flow_of(name).manner else 0 for name in fair}
        yield {name: fraction(house.flow_of(name).manner[1]) if house.flow_of(name).manner else 0 for name in fair}
        for _ in range(12):
            other = dict(fair)
            for name in rng.sample(sorted(fair), rng.randint(1, len(fair))):
                manner = house.flow_of(name).manner or (ZERO, ZERO)
                choices = [fraction(manner[0]), fraction(manner[1]), other[name] / 2, other[name] + Fraction(1, 12)]
                other[name] = rng.choice(choices + [max(other[name] - Fraction(1, 12), Fraction(0))])
            yield other
        yield self.greedy(rng, house)

    def greedy(self, rng, house):
        """A sharing that fits, and in which nobody can have more without another one having less."""
        got = {part.name: fraction(part.manner[0]) if part.manner else Fraction(0) for part in house.flows()}
        for name in rng.sample(sorted(got), len(got)):
            part = house.flow_of(name)
            if part.manner:
                rooms = [
                    fraction(house.link_of(link).capacity) - sum([got[other] for other in house.on(link)])
                    for link in part.route
                ]
                got[name] = min(rooms + [fraction(part.manner[1]) - got[name]]) + got[name]
        return got

    def test_any(self):
        rng = random.Random(51)
        seen = {}
        for _ in range(150):
            house = random_house(rng)
            fair = fill(house).shares()
            for got in self.sharings(rng, house):
                sharing = {name: pair(got[name]) for name in rng.sample(sorted(got), len(got))}
                fitting = plain_fits(house, got)
                self.assertIs(fits(house, sharing), fitting)
                self.assertIs(is_fair(house, sharing), plain_fair(house, got))
                if fitting:
                    self.assertIs(is_fair(house, sharing), sharing == fair)
                seen[(fitting, sharing == fair)] = True
            self.assertIs(is_fair(house, fair), True)
        self.assertEqual(sorted(seen), [(False, False), (True, False), (True, True)])


if __name__ == "__main__":
    unittest.main()
