import random
import unittest
from fractions import Fraction

from bandheld.amounts import ONE, ZERO
from bandheld.hops import Hop
from tests.helpers import fraction, pair, random_amount


def hop_of(way, age, *sends):
    hop = Hop(way, age)
    for tick, water in sends:
        hop.remember(tick, water)
    return hop


class Remembering(unittest.TestCase):
    def test_the_example(self):
        hop = hop_of(3, 2, *[(tick, (2, 1)) for tick in [5, 6, 7, 8]])
        self.assertEqual(hop.sent_after(4, 9), (8, 1))
        self.assertEqual(hop.room(9, 7, (10, 1)), (2, 1))

    def test_twice_for_one_tick(self):
        hop = hop_of(3, 2, (5, (2, 1)), (6, ONE))
        self.assertIs(hop.remember(5, (7, 2)), None)
        self.assertEqual(hop.sent_after(4, 7), (9, 2))
        hop.remember(water=ZERO, tick=5)
        self.assertEqual(hop.sent_after(4, 7), ONE)

    def test_both_ends_are_left_out(self):
        hop = hop_of(20, 12, *[(tick, (2 ** tick, 1)) for tick in range(8)])
        for tick in range(-3, 10):
            for now in range(-3, 12):
                told = sum([2 ** sent for sent in range(8) if tick < sent < now])
                self.assertEqual(hop.sent_after(tick, now), (told, 1))
        self.assertEqual(hop.sent_after(now=3, tick=1), (4, 1))
        self.assertEqual(Hop(way=1, age=1).sent_after(-100, 100), ZERO)

    def test_ticks_below_zero_in_any_order(self):
        hop = hop_of(2, 3, (-1, ONE), (-5, (2, 1)), (-3, (4, 1)), (0, (8, 1)))
        self.assertEqual(hop.sent_after(-6, 1), (15, 1))
        self.assertEqual(hop.sent_after(-5, 0), (5, 1))


class Rooms(unittest.TestCase):
    def test_every_note_that_counts(self):
        # All sends differ in their binary digits, so each sum tells which ones it holds.
        for way in [1, 2, 5, 20]:
            for age in [1, 3, 12]:
                hop = hop_of(way, age, *[(tick, (2 ** tick, 1)) for tick in range(40)])
                now = 40
                for made in range(now - age, now):
                    told = sum([2 ** sent for sent in range(40) if made - way < sent < now])
                    self.assertEqual(hop.room(now, made, (2 ** 41, 1)), (2 ** 41 - told, 1), (way, age, made))

    def test_just_young_enough_and_just_too_old(self):
        # A send at the tick of the note minus the way had arrived when the note was made.
        for way in [1, 20]:
            for age in [1, 12]:
                for made in range(30 - age, 30):
                    for sent, told in [(made - way, (5, 1)), (made - way + 1, (3, 1))]:
                        self.assertEqual(hop_of(way, age, (sent, (2, 1))).room(30, made, (5, 1)), told)

    def test_sends_of_now_do_not_count(self):
        hop = hop_of(3, 2, (8, ONE), (9, (50, 1)), (10, (70, 1)))
        self.assertEqual(hop.room(9, 8, (4, 1)), (3, 1))

    def test_never_below_zero(self):
        hop = hop_of(3, 2, (7, (3, 2)), (8, (5, 2)))
        for told, room in [((5, 1), ONE), ((4, 1), ZERO), ((9, 2), (1, 2)), ((7, 2), ZERO), (ZERO, ZERO)]:
            self.assertEqual(hop.room(9, 8, told), room)
        self.assertEqual(hop.room(told=(5, 1), made=8, now=9), ONE)
        self.assertEqual(Hop(1, 1).room(0, -1, (5, 1)), (5, 1))

    def test_any(self):
        rng = random.Random(73)
        for _ in range(60):
            way, age = rng.randint(1, 20), rng.randint(1, 12)
            hop, sent = Hop(way, age), {}
            for now in range(-way - age, 60):
                water = random_amount(rng, 5)
                for made in range(now - age, now):
                    told = random_amount(rng, 90)
                    gone = sum([sent.get(tick, Fraction(0)) for tick in range(made - way + 1, now)])
                    self.assertEqual(hop.room(now, made, told), pair(max(fraction(told) - gone, 0)))
                if rng.random() < 0.8:
                    hop.remember(now, water)
                    sent[now] = fraction(water)
                hop = rng.choice([hop, hop.copy()])


class Copies(unittest.TestCase):
    def test_copy(self):
        hop = hop_of(3, 2, (5, (2, 1)))
        other = hop.copy()
        self.assertIs(other.__class__, Hop)
        other.remember(6, ONE)
        other.remember(5, (3, 1))
        self.assertEqual((hop.sent_after(4, 9), other.sent_after(4, 9)), ((2, 1), (4, 1)))
        hop.remember(7, (9, 1))
        self.assertEqual((hop.sent_after(4, 9), other.sent_after(4, 9)), ((11, 1), (4, 1)))
        self.assertEqual((hop.room(8, 7, (20, 1)), other.room(8, 7, (20, 1))), ((9, 1), (16, 1)))


if __name__ == "__main__":
    unittest.main()
