import random
import unittest

from bandheld.amounts import ONE, ZERO
from bandheld.errors import BadCount, BadDeed, NoSuchLetter, NotStrange, Started, UnknownName
from bandheld.houses import House
from bandheld.replays import Trial, rehearse, rehearse_twice, replay
from bandheld.worlds import World
from tests.helpers import HOUSE, ODD_VALUES, check_raises, example
from tests.runs import drawn_deeds, drawn_house, drawn_letters, drawn_stir, mixed, started, told_of

NO_LISTS = [value for value in ODD_VALUES if not isinstance(value, (list, tuple))] + [{}, 5, "tick"]
NO_DEEDS = ODD_VALUES + ["tick", ["tick"], ("tock",), ("tick", 1), ("carry",), (["tick"],), (None,)]
TICK = ("tick",)
OLD = ("carry_old", 1)


def drawn_world(rng, ticks=8):
    house = drawn_house(rng)
    world = World(house)
    world.stir(**drawn_stir(rng, house))
    for _ in range(ticks):
        for deed in drawn_deeds(rng, world) + drawn_letters(rng, world, 0.1, 1):
            world.do(deed)
        world.tick()
    return world


def later_deeds(rng, world, ticks=5):
    """Deeds that can be done in a world, drawn in a copy of it."""
    other = world.copy()
    many = len(other.deeds())
    for _ in range(ticks):
        for deed in drawn_deeds(rng, other) + drawn_letters(rng, other, 0.1, 1):
            other.do(deed)
        other.tick()
    return other.deeds()[many:]


def levels_of(world, first, last):
    links = [link.name for link in world.house.links() if not link.strange]
    return [{link: world.level_at(link, tick) for link in links} for tick in range(first, last)]


class Replay(unittest.TestCase):
    def test_all_deeds_again(self):
        rng = random.Random(121)
        for _ in range(30):
            world = drawn_world(rng)
            again = replay(world.house, world.deeds())
            self.assertIs(again.__class__, World)
            self.assertEqual((again, told_of(again)), (world, told_of(world)))
            self.assertEqual(told_of(replay(deeds=tuple(world.deeds()), house=world.house)), told_of(world))

    def test_no_deeds(self):
        self.assertEqual(replay(mixed(), []), World(mixed()))
        self.assertEqual(replay(mixed(), ()), World(mixed()))

    def test_no_lists(self):
        for value in NO_LISTS:
            check_raises(self, BadDeed, {"at": -1}, replay, mixed(), value)

    def test_bad_deeds_are_found_ahead_of_doing_any(self):
        for deed in NO_DEEDS:
            check_raises(self, BadDeed, {"at": 0}, replay, mixed(), [deed])
            check_raises(self, BadDeed, {"at": 2}, replay, mixed(), (TICK, ("carry", None), deed, deed))

    def test_errors_of_the_deeds(self):
        for deed, error, told in [
            (("carry", 99), NoSuchLetter, {"number": 99}), (("change", "s", ()), UnknownName, {"name": "s"}),
            (("stir", (), (), (), (), (), ()), Started, {"tick": 1}), (("carry_old", 0), BadCount, {"value": 0}),
        ]:
            check_raises(self, error, told, replay, mixed(), [TICK, deed, ("send", "f", 0, ONE)])


class Trials(unittest.TestCase):
    def test_left_by_its_end(self):
        rng = random.Random(122)
        for _ in range(20):
            world = drawn_world(rng)
            before, copy, deeds = told_of(world), world.copy(), later_deeds(rng, world)
            with Trial(world) as held:
                self.assertIs(held, world)
                self.assertEqual(told_of(world), before)
                for deed in deeds:
                    world.do(deed)
                self.assertNotEqual(told_of(world), before)
            self.assertEqual((world, told_of(world)), (copy, before))
            for deed in deeds:
                world.do(deed)
                copy.do(deed)
            self.assertEqual((world, told_of(world)), (copy, told_of(copy)))

    def test_left_by_an_error(self):
        for error in [KeyError("x"), NoSuchLetter(5), ZeroDivisionError()]:
            world = started()
            with self.assertRaises(error.__class__) as caught:
                with Trial(world):
                    world.change("f", ())
                    world.run(3)
                    raise error
            self.assertIs(caught.exception, error)
            self.assertEqual((world, told_of(world)), (started(), told_of(started())))

    def test_within_each_other(self):
        world = started()
        with Trial(world=world) as first:
            first.run(2)
            middle = told_of(world)
            with Trial(first) as second:
                self.assertIs(second, world)
                second.set_capacity("c", (6, 1))
                second.run(2)
                with self.assertRaises(KeyError):
                    with Trial(world):
                        world.send("s", 0, (5, 1))
                        world.run(1)
                        raise KeyError("x")
                self.assertEqual(world.now, 8)
            self.assertEqual(told_of(world), middle)
            world.run(1)
        self.assertEqual((world, told_of(world)), (started(), told_of(started())))

    def test_one_trial_again(self):
        world = started()
        trial = Trial(world)
        world.run(1)
        before = told_of(world)
        with trial:
            world.run(2)
            middle = told_of(world)
            with trial as held:
                held.run(3)
            self.assertEqual(told_of(world), middle)
        self.assertEqual(told_of(world), before)
        with trial:
            world.run(1)
        self.assertEqual(told_of(world), before)

    def test_copies_made_within(self):
        world = started()
        with Trial(world):
            world.run(2)
            other = world.copy()
        self.assertEqual((world.now, other.now), (4, 6))
        other.run(1)
        world.run(1)
        self.assertEqual((world.now, other.now), (5, 7))


class Rehearsals(unittest.TestCase):
    def test_levels(self):
        world = World(example(1))
        deeds = [TICK, OLD, TICK, ("change", "g", ()), OLD, TICK, OLD, TICK]
        told = rehearse(world, deeds)
        self.assertEqual([(row["a"][0], row["b"][0]) for row in told], [(2, 3), (2, 4), (2, 4), (4, 4)])
        self.assertEqual([list(row) for row in told], [["a", "b"]] * 4)
        self.assertEqual((world, told_of(world)), (World(example(1)), told_of(World(example(1)))))
        self.assertEqual(rehearse(deeds=tuple(deeds), world=world), told)
        self.assertEqual((rehearse(world, []), rehearse(world, [OLD, ("change", "f", ())])), ([], []))

    def test_true_links_alone(self):
        world = started()
        told = rehearse(world, [OLD, TICK, TICK])
        self.assertEqual([list(row) for row in told], [["a", "c"]] * 2)
        self.assertEqual(rehearse(World(House(2)), [TICK]), [{}])

    def test_any(self):
        rng = random.Random(123)
        for _ in range(20):
            world = drawn_world(rng)
            deeds, before = later_deeds(rng, world), told_of(world)
            other = world.copy()
            for deed in deeds:
                other.do(deed)
            told = rehearse(world, deeds)
            self.assertEqual(told, levels_of(other, world.now, other.now))
            self.assertEqual(told_of(world), before)
            told.clear()
            self.assertEqual(rehearse(world, deeds), levels_of(other, world.now, other.now))

    def test_errors(self):
        for world in [started(), World(mixed())]:
            before = told_of(world)
            for value in NO_LISTS:
                check_raises(self, BadDeed, {"at": -1}, rehearse, world, value)
            for deed in NO_DEEDS:
                check_raises(self, BadDeed, {"at": 1}, rehearse, world, [("carry", None), deed])
            for deed, error, told in [
                (("carry", 999), NoSuchLetter, {"number": 999}), (("hush", ("level", "a", "b", "")), NotStrange, {"name": "a"}),
            ]:
                check_raises(self, error, told, rehearse, world, [TICK, ("send", "s", 0, ONE), OLD, TICK, deed, TICK])
            self.assertEqual(told_of(world), before)


class Twice(unittest.TestCase):
    def test_both_are_equal(self):
        rng = random.Random(124)
        seen = []
        for _ in range(20):
            world = drawn_world(rng)
            before = told_of(world)
            deeds = later_deeds(rng, world, 3)
            ahead = world.copy()
            for deed in deeds:
                ahead.do(deed)
            inner = later_deeds(rng, ahead, 4)
            middle = ahead.now
            for deed in inner:
                ahead.do(deed)
            told = rehearse_twice(world, deeds, inner)
            self.assertIs(told.__class__, tuple)
            first, second = told
            self.assertEqual(first, levels_of(ahead, middle, ahead.now))
            self.assertEqual(second, first)
            self.assertEqual(told_of(world), before)
            # Both are lists of their own.
            first[0].clear()
            self.assertEqual(second, levels_of(ahead, middle, ahead.now))
            seen.append(len(second))
        self.assertEqual(set(seen), {4})

    def test_by_name(self):
        world = World(example(1))
        told = rehearse_twice(inner=[OLD, TICK], deeds=[TICK], world=world)
        self.assertEqual(told, ([{"a": (2, 1), "b": (4, 1)}],) * 2)
        self.assertEqual(rehearse_twice(world, (), ()), ([], []))

    def test_errors(self):
        world = started()
        before = told_of(world)
        for value in NO_LISTS:
            check_raises(self, BadDeed, {"at": -1}, rehearse_twice, world, value, None)
            check_raises(self, BadDeed, {"at": -1}, rehearse_twice, world, [("carry", None)], value)
        for deed in NO_DEEDS:
            check_raises(self, BadDeed, {"at": 1}, rehearse_twice, world, [("carry", None), deed], [deed])
            check_raises(self, BadDeed, {"at": 2}, rehearse_twice, world, [("carry", None)], [TICK, TICK, deed])
        check_raises(self, NoSuchLetter, {"number": None}, rehearse_twice, world, [TICK, ("carry", None)], [TICK])
        check_raises(self, UnknownName, {"name": HOUSE}, rehearse_twice, world, [TICK], [TICK, ("change", HOUSE, ())])
        self.assertEqual((world, told_of(world)), (started(), before))

    def test_letters_of_the_second_time(self):
        # The numbers of the letters are the same both times, or the second carry would fail.
        world = World(example(2))
        inner = [TICK, ("carry", 12), ("copy", 13), ("carry", 24), ("change", "f", (ZERO, ONE)), TICK]
        first, second = rehearse_twice(world, [TICK], inner)
        self.assertEqual((len(first), first), (2, second))


if __name__ == "__main__":
    unittest.main()
