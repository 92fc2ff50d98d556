"""Buffers, in which the water of a flow waits at a link."""

from bandheld.amounts import ZERO, compare, largest, minus, plus, smallest
from bandheld.errors import Short


class Buffer:
    """A buffer of a given size, which spills what does not fit."""

    def __init__(self, size):
        self.size = size
        self._water = ZERO
        self._most = ZERO

    @property
    def held(self):
        """What the buffer holds."""
        return self._water

    @property
    def fullest(self):
        """The most that the buffer held so far."""
        return self._most

    def take_in(self, water):
        """Takes in what fits; returns what is spilled."""
        wanted = plus(self._water, water)
        self.set_to(smallest(wanted, self.size))
        return minus(wanted, self._water)

    def give(self, water):
        """Lets water go."""
        if compare(self._water, water) < 0:
            raise Short(water)
        self._water = minus(self._water, water)

    def set_to(self, water):
        """Holds this amount, whatever was held before."""
        self._water = water
        self._most = largest(self._most, water)

    def copy(self):
        """A buffer with the same water, which shares nothing with this one."""
        other = Buffer(self.size)
        other._water = self._water
        other._most = self._most
        return other
