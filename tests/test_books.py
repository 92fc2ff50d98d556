import random
import unittest
from collections import Counter

from bandheld.amounts import ONE, TOP, ZERO
from bandheld.bands import bands
from bandheld.books import fault_of, levels_of
from bandheld.houses import House
from bandheld.links import Link
from bandheld.swings import swing
from bandheld.worlds import World
from tests.helpers import ODD_VALUES, example, flow, fraction, pair
from tests.runs import drawn_deeds, drawn_house, drawn_letters, drawn_value

LEVEL, MANNER = ("level", "b", "a", ""), ("manner", "f", "a", "f")
SAID = ("manner", "g", "a", "g")


def house():
    """The example with a shaky link b and the strange flow g on link a."""
    return House(
        2, Link("a", (4, 1)), Link("b", (6, 1), low=(5, 1)), flow("f", "a", "b"), flow("g", "a", strange=True),
        flow("h", "b"))


def book(ticks=4):
    world = World(house())
    world.say(SAID, (TOP, ONE))
    world.run(ticks)
    return world.book()


def with_row(at, **parts):
    """The book with other parts in one row."""
    rows = book()
    row = dict(zip(["tick", "link", "capacity", "heard", "level"], rows[at]), **parts)
    rows[at] = tuple(row.values())
    return rows


def with_entry(at, entry, *more):
    """The book in which a row has another entry, or several ones, in the place of the entry (channel, ..) there."""
    heard = book()[at][3]
    place = [old[0] for old in heard].index(entry)
    return with_row(at, heard=heard[:place] + list(more) + heard[place + 1:])


class Case(unittest.TestCase):
    def check(self, rows, fault):
        self.assertEqual(fault_of(house(), rows), fault)
        self.assertEqual(fault_of(house(), tuple(rows)), fault)


class Faultless(Case):
    def test_the_book_of_a_run(self):
        for ticks in [0, 1, 4, 9]:
            self.assertIs(fault_of(house(), book(ticks)), None)
            self.assertIs(fault_of(book=tuple(book(ticks)), house=house()), None)
            rows = [row[:3] + (tuple(row[3]),) + row[4:] for row in book(ticks)]
            self.assertIs(fault_of(house(), rows), None)

    def test_any_run(self):
        rng = random.Random(141)
        for _ in range(40):
            part = drawn_house(rng, rng.choice([0, 0.3]), 0.4)
            world = World(part)
            for _ in range(10):
                for deed in drawn_deeds(rng, world, 0) + drawn_letters(rng, world):
                    world.do(deed)
                world.tick()
            rows = world.book()
            self.assertIs(fault_of(part, rows), None)
            links = [link.name for link in part.links() if not link.strange]
            told = [{link: world.level_at(link, tick) for link in links} for tick in range(10)]
            self.assertEqual(levels_of(rows), told if links else [])

    def test_swings(self):
        rng = random.Random(142)
        for _ in range(15):
            part = drawn_house(rng, 0.3, 0.4)
            for from_top in [True, False]:
                rows = swing(part, 4, from_top=from_top).book()
                self.assertIs(fault_of(part, rows), None)
                found = list(bands(part))
                for tick, levels in enumerate(levels_of(rows)):
                    band = found[min(tick // part.age, len(found) - 1)]
                    self.assertTrue(all([place in band for place in levels.items()]))

    def test_a_run_with_silence_has_a_fault(self):
        world = World(house())
        for _ in range(4):
            world.tick()
        self.check(world.book(), (4, "silent"))

    def test_a_run_with_a_change_is_none_of_the_house(self):
        world = World(house())
        world.change("h", (ZERO, ONE))
        world.run(2)
        self.check(world.book(), (3, "told"))
        self.assertIs(fault_of(world.present(), world.book()[:2]), None)

    def test_no_true_links(self):
        part = house().with_strange("a", "b")
        self.assertIs(fault_of(part, []), None)
        self.assertEqual(fault_of(part, book()), (0, "row"))
        self.assertIs(fault_of(House(3), ()), None)
        self.assertEqual(fault_of(House(3), [None]), (0, "row"))


class Faults(Case):
    def test_book(self):
        for value in [value for value in ODD_VALUES if not isinstance(value, (list, tuple))] + [{}, 5, "book"]:
            self.assertEqual(fault_of(house(), value), (-1, "book"))

    def test_row(self):
        for value in ODD_VALUES:
            if value in ([], ()):
                continue
            self.check(book()[:3] + [value] + book()[3:], (3, "row"))
        self.check([list(row) for row in book()], (0, "row"))
        self.check(book()[:1] + [book()[1] + (1,)], (1, "row"))
        self.check(book()[:1] + [book()[1][:4]], (1, "row"))
        for parts in [
            {"tick": value} for value in [-1, None, True, False, "1", (1, 1), [1]]
        ] + [{"link": value} for value in ODD_VALUES + ["c", "f", ("a",), ["a"]]] + [
            {name: value} for name in ["capacity", "level"] for value in [None, 4, (4, 2), [4, 1], (True, 1), (-1, 1), ()]
        ] + [{"heard": value} for value in [None, {}, "", 5, True]]:
            self.check(with_row(2, **parts), (2, "row"))
        self.assertEqual(fault_of(house().with_strange("a"), book()), (0, "row"))

    def test_order(self):
        rows = book()
        self.check(rows[1:], (0, "order"))
        self.check(rows[:2] + rows[3:], (2, "order"))
        self.check(rows[:2] + rows[1:], (2, "order"))
        self.check(rows[:1] + rows, (1, "order"))
        self.check([rows[1], rows[0]] + rows[2:], (0, "order"))
        self.check(rows[2:], (0, "order"))
        self.check(rows[:4] + rows[6:], (4, "order"))
        self.check(with_row(4, tick=3), (4, "order"))
        self.check(with_row(4, tick=10 ** 8), (4, "order"))
        self.check(with_row(4, link="b"), (4, "order"))

    def test_capacity(self):
        for capacity in [(4, 1), (59, 12), (73, 12), (7, 1), ZERO]:
            self.check(with_row(3, capacity=capacity), (3, "capacity"))
        for capacity in [(5, 1), (11, 2), (6, 1)]:
            # The level does not fit any more, unless the capacity is the one that was there.
            self.check(with_row(3, capacity=capacity), None if capacity == (5, 1) else (3, "level"))
        self.check(with_row(2, capacity=(39, 10)), (2, "capacity"))

    def test_entry(self):
        for value in ODD_VALUES + [(LEVEL, 1), (LEVEL, 1, ONE, ONE), [LEVEL, 1, ONE]]:
            self.check(with_entry(4, LEVEL, value), (4, "entry"))
        for channel in [
            None, "level", list(LEVEL), ("level", "a", "b", ""), ("level", "b", "f", ""), ("manner", "h", "b", "h"),
            ("room", "a", "f", "f"), ("manner", "h", "a", "h"), (["level"], "b", "a", ""), LEVEL[:3],
        ]:
            self.check(with_entry(4, LEVEL, (channel, 1, ONE)), (4, "entry"))
        for made in [-1, 2, 3, None, True, "1", (1, 1)]:
            self.check(with_entry(4, LEVEL, (LEVEL, made, ONE)), (4, "entry"))
        for value in [None, 1, True, (), (2, 2), (ZERO, ONE), [1, 1]]:
            self.check(with_entry(4, LEVEL, (LEVEL, 1, value)), (4, "entry"))
        for value in [None, 1, ONE, (ZERO,), [], [ZERO, TOP], (ZERO, (2, 2))]:
            self.check(with_entry(4, MANNER, (MANNER, 1, value)), (4, "entry"))

    def test_entries_exchanged_and_doubled(self):
        heard = book()[4][3]
        self.check(with_row(4, heard=[heard[1], heard[0], heard[2]]), (4, "entry"))
        self.check(with_row(4, heard=heard[::-1]), (4, "entry"))
        self.check(with_row(4, heard=heard[:1] + heard), (4, "entry"))
        self.check(with_row(4, heard=heard + heard[-1:]), (4, "entry"))

    def test_silent(self):
        for channel in [LEVEL, MANNER]:
            self.check(with_entry(4, channel), (4, "silent"))
        self.check(with_row(0, heard=[]), (0, "silent"))
        self.check(with_row(1, heard=()), (1, "silent"))

    def test_strange_tellers_may_be_silent(self):
        # Without g link a is not full, as link b holds f at 3.
        rows = with_entry(4, SAID)
        self.check(rows, (4, "level"))
        self.check(rows[:4] + [rows[4][:4] + (TOP,)], (5, "short"))

    def test_told(self):
        self.assertEqual(book()[4][3][0], (LEVEL, 1, book()[3][4]))
        for value in [ONE, TOP, (10 ** 39, 1)]:
            self.check(with_entry(4, LEVEL, (LEVEL, 1, value)), (4, "told"))
        for value in [(), (ZERO, ONE), (TOP, ZERO)]:
            self.check(with_entry(4, MANNER, (MANNER, 1, value)), (4, "told"))
            self.check(with_entry(4, MANNER, (MANNER, 0, value)), (4, "told"))
        # What was told a tick earlier may be heard still, if it is named so.
        rows = with_entry(4, LEVEL, (LEVEL, 0, book()[1][4]))
        self.check(with_entry(4, LEVEL, (LEVEL, 0, book()[3][4])), (4, "told"))
        self.assertEqual(book()[1][4], (5, 2))
        self.assertEqual(fault_of(house(), rows), (4, "level"))

    def test_not_told_yet(self):
        # Notes from ahead of tick 0 may have any value, as in a world that was stirred.
        rows = with_entry(0, LEVEL, (LEVEL, -2, ONE))
        self.assertEqual(fault_of(house(), rows), (0, "level"))
        rows[0] = rows[0][:4] + ((3, 1),)
        self.assertEqual(fault_of(house(), rows[:2]), None)
        rows = with_entry(0, MANNER, (MANNER, -1, ()))
        rows[0] = rows[0][:4] + ((4, 1),)
        self.assertEqual(fault_of(house(), rows[:2]), None)

    def test_strange_values_are_not_compared(self):
        # Link b holds f at 3, and the level of link a depends on what g says.
        for value, level in [
            ((), TOP), ((TOP, TOP), (2, 1)), ((TOP, ZERO), TOP), ((ZERO, (1, 2)), TOP), ((ZERO, (3, 1)), (2, 1)),
            ((ONE, (3, 2)), (5, 2)),
        ]:
            for made in [0, 1]:
                rows = with_entry(4, SAID, (SAID, made, value))[:5]
                rows[4] = rows[4][:4] + (level,)
                self.check(rows, (5, "short"))
                rows[4] = rows[4][:4] + (pair(fraction(level) + 1),)
                self.check(rows, (4, "level"))

    def test_level(self):
        for level in [ZERO, ONE, TOP, (1001, 1), (10 ** 39, 7)]:
            self.check(with_row(4, level=level), (4, "level"))

    def test_short(self):
        rows = book()
        for many in range(len(rows)):
            self.check(rows[:many], (many, "short") if many % 2 else None)

    def test_the_first_fault_counts(self):
        # Each row is bent at more and more places; the word that stands first is told.
        bent = [
            ("level", {"level": ONE}), ("told", {"heard": [(LEVEL, 1, ONE)] + book()[4][3][1:]}),
            ("silent", {"heard": [(LEVEL, 1, ONE)]}), ("entry", {"heard": [(LEVEL, 9, ONE)]}),
            ("capacity", {"capacity": ONE}), ("order", {"tick": 7}), ("row", {"link": "f"}),
        ]
        parts = {}
        for word, more in bent:
            parts.update(more)
            rows = with_row(4, **parts)
            self.check(rows, (4, word))
            # A fault of an earlier row counts ahead of it, and one of a later row does not.
            rows[2] = rows[2][:4] + (ONE,)
            rows[6] = None
            self.check(rows, (2, "level"))
            rows[2] = book()[2]
            self.check(rows, (4, word))
            self.check(rows[:5], (4, word))

    def test_any_bent_book(self):
        rng = random.Random(143)
        seen = Counter()
        for _ in range(240):
            part = drawn_house(rng, 0.2, 0.4)
            world = World(part)
            for _ in range(4):
                for deed in drawn_deeds(rng, world, 0) + drawn_letters(rng, world):
                    world.do(deed)
                world.tick()
            rows = world.book()
            if not rows:
                continue
            at = rng.randrange(len(rows))
            tick, link, capacity, heard, level = rows[at]
            bend = rng.randrange(4)
            if bend == 0:
                rows[at] = (tick, link, capacity, heard, pair(fraction(level) + 1))
                told = (at, "level")
            elif bend == 1 and heard:
                true = [entry for entry in heard if not part.with_strange(entry[0][1]) == part]
                gone = rng.choice(heard)
                rows[at] = (tick, link, capacity, [entry for entry in heard if entry != gone], level)
                told = (at, "silent") if gone in true else None
            elif bend == 2 and heard:
                place = rng.randrange(len(heard))
                channel, made, value = heard[place]
                other = drawn_value(rng, part, channel)
                rows[at] = (tick, link, capacity, heard[:place] + [(channel, made, other)] + heard[place + 1:], level)
                true = not part.with_strange(channel[1]) == part
                told = (at, "told") if true and made >= 0 and other != value else None
            else:
                del rows[at]
                many = len([link for link in part.links() if not link.strange])
                last = at == len(rows)
                told = (at, "order")
                if last:
                    told = (at, "short") if many > 1 else ()
            if told is None:
                # A strange teller or an old note: only the level can tell.
                self.assertIn(fault_of(part, rows), [None, (at, "level")])
            else:
                self.assertEqual(fault_of(part, rows), told or None)
            seen[told and told[1]] += 1
        self.assertGreater(min(seen.values()), 2, seen)
        self.assertEqual(len(seen), 7)


class LevelsOf(unittest.TestCase):
    def test_levels(self):
        found = levels_of(book())
        self.assertEqual([list(row) for row in found], [["a", "b"]] * 4)
        self.assertEqual([(row["a"], row["b"]) for row in found],
                         [((2, 1), (5, 2))] + [(book()[2 * tick][4], book()[2 * tick + 1][4]) for tick in [1, 2, 3]])
        self.assertEqual((levels_of([]), levels_of(())), ([], []))
        self.assertEqual(levels_of(book=tuple(book())), found)
        found[0].clear()
        self.assertEqual(len(levels_of(book())[0]), 2)

    def test_one_link(self):
        world = World(example(1).with_strange("b"))
        world.run(3)
        self.assertEqual([list(row) for row in levels_of(world.book())], [["a"]] * 3)


if __name__ == "__main__":
    unittest.main()
