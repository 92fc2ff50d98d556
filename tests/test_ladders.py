import random
import unittest

from bandheld.amounts import ONE, TOP, ZERO
from bandheld.bands import Band, first_band, last_band, settling
from bandheld.errors import BadBand
from bandheld.houses import House
from bandheld.ladders import band_of_steps, count, is_ladder, ladder
from bandheld.links import Link
from tests.helpers import FLOW, HOUSE, ODD_VALUES, check_raises, example, flow, fraction, random_house
from tests.plain import plain_ladder

FIRST = [("a", "low", (2, 1)), ("a", "high", (2, 1)), ("b", "low", (4, 1)), ("b", "high", (4, 1))]
SECOND = [("a", "low", (2, 1)), ("b", "low", (3, 1)), ("b", "high", (4, 1)), ("a", "high", TOP)]
NO_STEPS = [
    None, 3, (), ["a", "low", (2, 1)], ("a", "low"), ("a", "low", (2, 1), (2, 1)), ("x", "low", (2, 1)),
    ("f", "low", (2, 1)), ("a", "side", (2, 1)), ("a", True, (2, 1)), (None, "low", (2, 1)), (["a"], "low", (2, 1)),
    ("a", "low", (4, 2)), ("a", "low", 2), ("a", "low", [2, 1]), ("a", "low", (True, 1)), ("a", "low", None),
    ("a", ["low"], (2, 1)), ("low", "a", (2, 1)), (HOUSE, "low", (2, 1)), ("a", "low", FLOW), "alv",
]


class Ladders(unittest.TestCase):
    def check(self, house, steps, many):
        self.assertEqual(ladder(house), steps)
        self.assertEqual(count(house), many)
        self.assertEqual(band_of_steps(house, steps), last_band(house))
        self.assertIs(is_ladder(house, steps), True)

    def test_example(self):
        self.check(example(), FIRST, 2)
        self.check(example(strange=True), SECOND, 4)

    def test_empty_and_strange(self):
        self.check(House(1), [], 0)
        self.check(HOUSE, [("a", "low", (4, 1)), ("a", "high", (4, 1))], 1)
        self.check(HOUSE.with_strange("a"), [], 0)
        self.check(example().with_strange("a"), [("b", "low", (3, 1)), ("b", "high", (6, 1))], 2)
        self.check(example().with_strange("b"), [("a", "low", (2, 1)), ("a", "high", (4, 1))], 2)
        self.check(example().with_strange("a", "b"), [], 0)

    def test_equal_candidates(self):
        parts = [Link("b", (2, 1)), Link("a", (2, 1)), flow("f", "b"), flow("g", "a")]
        self.check(House(1, *parts), [(link, side, (2, 1)) for link in "ab" for side in ["low", "high"]], 1)
        shaky = House(1, Link("b", (3, 1), low=(2, 1)), Link("a", (2, 1)), flow("f", "b"), flow("g", "a"))
        self.check(shaky, [
            ("a", "low", (2, 1)), ("a", "high", (2, 1)), ("b", "low", (2, 1)), ("b", "high", (3, 1)),
        ], 2)

    def test_by_name_and_new(self):
        house = example()
        self.assertEqual(ladder(house=house), FIRST)
        self.assertEqual(count(house=house), 2)
        self.assertEqual(band_of_steps(steps=FIRST, house=house), last_band(house))
        self.assertIs(is_ladder(steps=FIRST, house=house), True)
        ladder(house).clear()
        self.assertEqual(ladder(house), FIRST)
        self.assertIs(ladder(house).__class__, list)

    def test_any(self):
        rng = random.Random(56)
        for _ in range(120):
            house = random_house(rng, rng.choice([0, 0.2, 0.5]), rng.choice([0, 0.5]))
            steps = ladder(house)
            self.check(house, plain_ladder(house), len({step[2] for step in steps}))
            values = [fraction(step[2]) for step in steps]
            self.assertEqual(values, sorted(values))
            self.assertLessEqual(settling(house), 2 * count(house))
            rng.shuffle(steps)
            before = list(steps)
            self.assertEqual(band_of_steps(house, steps), last_band(house))
            self.assertIs(is_ladder(house, sorted(steps, key=lambda step: fraction(step[2]))), True)
            self.assertEqual(steps, before)


class BandOfSteps(unittest.TestCase):
    def test_any_order(self):
        steps = [("b", "high", (5, 2)), ("a", "low", ZERO), ("b", "low", ONE), ("a", "high", TOP)]
        band = Band(example(), {"a": ZERO, "b": ONE}, {"a": TOP, "b": (5, 2)})
        self.assertEqual(band_of_steps(example(), steps), band)
        self.assertEqual(band_of_steps(example(), tuple(steps[::-1])), band)
        strange = example().with_strange("a")
        self.assertEqual(band_of_steps(strange, [steps[2], steps[0]]), band)
        self.assertEqual(band_of_steps(House(1), []), first_band(House(1)))
        strange = example().with_strange("a", "b")
        self.assertEqual(band_of_steps(strange, ()), first_band(strange))

    def test_no_steps(self):
        wrong = ODD_VALUES + [FIRST[:3], FIRST + FIRST[:1], FIRST[:3] + FIRST[:1], "abcd", 3, {"a": FIRST}]
        for value in wrong + [last_band(HOUSE)]:
            check_raises(self, BadBand, {"link": None}, band_of_steps, example(), value)
        for step in NO_STEPS:
            check_raises(self, BadBand, {"link": None}, band_of_steps, example(), FIRST[1:] + [step])
            check_raises(self, BadBand, {"link": None}, band_of_steps, example(), FIRST + [step])
        for steps in [FIRST, [("b", "low", ONE)], [], [("b", "low", ONE), ("b", "high", ONE), ("a", "low", ZERO)]]:
            check_raises(self, BadBand, {"link": None}, band_of_steps, example().with_strange("a"), steps)
        check_raises(self, BadBand, {"link": None}, band_of_steps, House(1), FIRST)

    def test_no_band(self):
        for worth, link in [
            ([(2, 1), ONE, (3, 1), ONE], "a"), ([ONE, ONE, (3, 1), ONE], "b"), ([ONE, (1001, 1), ONE, ONE], "a"),
            ([ONE, ONE, ONE, (1001, 1)], "b"), ([(1001, 1), (1001, 1), ONE, ONE], "a"),
        ]:
            steps = [(step[0], step[1], value) for step, value in zip(FIRST, worth)]
            check_raises(self, BadBand, {"link": link}, band_of_steps, example(), steps)
            check_raises(self, BadBand, {"link": link}, band_of_steps, example(), steps[::-1])
        steps = [("b", "low", ONE), ("b", "high", ZERO)]
        check_raises(self, BadBand, {"link": "b"}, band_of_steps, example().with_strange("a"), steps)


class IsLadder(unittest.TestCase):
    def check(self, house, steps, told):
        self.assertIs(is_ladder(house, steps), told, steps)
        self.assertIs(is_ladder(house, tuple(steps)), told, steps)

    def test_order_of_equal_values(self):
        low, high, further, last = FIRST
        for steps in [FIRST, [high, low, further, last], [low, high, last, further], [high, low, last, further]]:
            self.check(example(), steps, True)
        for steps in [[further, last, low, high], [low, further, high, last], FIRST[::-1], [low, last, high, further]]:
            self.check(example(), steps, False)
        self.check(example(strange=True), SECOND, True)
        self.check(example(strange=True), [SECOND[1], SECOND[0], SECOND[2], SECOND[3]], False)

    def test_other_values(self):
        for at in range(4):
            for value in [ZERO, ONE, (23, 12), (2, 1), (25, 12), (3, 1), (4, 1), (49, 12), TOP, (1001, 1)]:
                for house, right in [(example(), FIRST), (example(strange=True), SECOND)]:
                    steps = list(right)
                    steps[at] = (steps[at][0], steps[at][1], value)
                    self.check(house, steps, steps == right)

    def test_values_that_never_fall(self):
        # Each value is right for what stands ahead of it, but the values fall.
        house = House(1, Link("a", (4, 1)), Link("b", (2, 1)), flow("f", "a"), flow("g", "b"))
        right = [("b", "low", (2, 1)), ("b", "high", (2, 1)), ("a", "low", (4, 1)), ("a", "high", (4, 1))]
        self.check(house, right, True)
        self.check(house, right[2:] + right[:2], False)
        self.check(house, [right[0], right[2], right[1], right[3]], False)

    def test_other_houses(self):
        self.check(example(strange=True), FIRST, False)
        self.check(example(), SECOND, False)
        self.check(example().with_strange("a"), FIRST, False)
        self.check(example().with_strange("a"), [("b", "low", (3, 1)), ("b", "high", (6, 1))], True)
        self.check(example().with_strange("a"), [("b", "low", (4, 1)), ("b", "high", (4, 1))], False)
        self.check(House(1), [], True)
        self.check(example(), [], False)
        self.check(House(1), FIRST, False)

    def test_no_lists_and_no_steps(self):
        wrong = ODD_VALUES + [{"a": FIRST}, "abcd", 3, last_band(HOUSE)]
        for value in wrong + [FIRST[:3], FIRST + FIRST[3:], FIRST[:3] + FIRST[2:3]]:
            self.assertIs(is_ladder(example(), value), False)
        for value in [None, 0, "", {}, example(), True]:
            self.assertIs(is_ladder(House(1), value), False)
        for step in NO_STEPS:
            self.check(example(), FIRST + [step], False)
            self.check(example(), [step] + FIRST, False)
            self.check(example(), [step] + FIRST[1:], False)


if __name__ == "__main__":
    unittest.main()
