"""Wires: what a hop sent, and when it arrives."""

from bandheld.amounts import ZERO, plus


class Wire:
    """The water that one hop of a flow sent, which takes its way in ticks to arrive."""

    def __init__(self, way):
        self._way = way
        self._sent = {}

    def put(self, tick, water):
        """Takes what was sent at a tick, in the place of what was put there before."""
        self._sent[tick] = water

    def arriving(self, tick):
        """What arrives at a tick."""
        return self._sent.get(tick - self._way, ZERO)

    def under_way(self, tick):
        """What is on the wire behind a tick, with what was sent at this tick."""
        found = [self._sent.get(earlier, ZERO) for earlier in range(tick - self._way + 1, tick + 1)]
        return plus(*found)

    def copy(self):
        """A wire with the same water, which shares nothing with this one."""
        other = Wire(self._way)
        other._sent = dict(self._sent)
        return other
