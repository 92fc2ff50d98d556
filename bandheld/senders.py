"""Senders: what the sources of the four kinds offer to send."""

from bandheld.amounts import ZERO, compare, minus, plus, smallest, times
from bandheld.shares import share


class Sender:
    """The source of a flow: what it offers, what it asks, and what it sent so far."""

    def __init__(self, flow, age):
        self.flow = flow
        self.age = age
        self.total = ZERO

    def offer(self, now, manner, heard):
        """What the source would send at the tick now."""
        return ZERO

    def note_sent(self, water):
        """Counts what was sent."""
        self.total = plus(self.total, water)

    def asks(self, manner):
        """What is asked behind the offer of a tick."""
        return ZERO

    def copy(self):
        """A sender of this class with the same state, which shares nothing with this one."""
        return _with_total(Sender(self.flow, self.age), self.total)


class LevelSender(Sender):
    """Sends its share at the smallest level of its route."""

    def __init__(self, flow, age):
        super().__init__(flow, age)
        self._levels = [("level", link, flow.name, "") for link in flow.route]

    def offer(self, now, manner, heard):
        """The share of the manner at the smallest level that is heard."""
        levels = [heard.get(channel, ZERO) for channel in self._levels]
        return share(manner, self.flow.weight, smallest(*levels))

    def copy(self):
        """A sender of this class with the same state, which shares nothing with this one."""
        return _with_total(LevelSender(self.flow, self.age), self.total)


class EagerSender(Sender):
    """Sends what it can."""

    def __init__(self, flow, age):
        super().__init__(flow, age)
        self._door = flow.door

    def offer(self, now, manner, heard):
        """What goes through the door in a tick."""
        if manner == ():
            return ZERO
        return self._door

    def copy(self):
        """A sender of this class with the same state, which shares nothing with this one."""
        return _with_total(EagerSender(self.flow, self.age), self.total)


class WindowSender(Sender):
    """Sends as long as what has not come yet stays within its size."""

    def __init__(self, flow, age):
        super().__init__(flow, age)
        self._came = ("came", flow.name, flow.name, flow.name)

    def offer(self, now, manner, heard):
        """What goes through the door, and the window leaves."""
        bound = plus(self.flow.size, heard.get(self._came, ZERO))
        if manner == () or compare(bound, self.total) < 0:
            return ZERO
        return smallest(self.flow.door, minus(bound, self.total))

    def copy(self):
        """A sender of this class with the same state, which shares nothing with this one."""
        return _with_total(WindowSender(self.flow, self.age), self.total)


class ProbeSender(Sender):
    """Sends at a rate that it searches by halves, with one bit of each link for each try."""

    def __init__(self, flow, age):
        super().__init__(flow, age)
        self._bits = [flow.channel_of("bit", link) for link in flow.route]
        self.force(ZERO, flow.cap, 0, 0, ZERO)

    def offer(self, now, manner, heard):
        """The rate, behind the end of a try if it is due."""
        if manner == ():
            self.force(ZERO, self.flow.cap, 0, now + 1, ZERO)
        elif now - self._begun >= 2 * self.age:
            self._end_try(now, all([heard.get(channel, False) for channel in self._bits]))
        return self._rate

    def asks(self, manner):
        """Half the sum of low and high, ZERO if the flow is gone."""
        if manner == ():
            return ZERO
        return times(plus(self._low, self._high), (1, 2))

    def copy(self):
        """A sender of this class with the same state, which shares nothing with this one."""
        other = ProbeSender(self.flow, self.age)
        other.force(self._low, self._high, self._done, self._begun, self._rate)
        return _with_total(other, self.total)

    def state(self):
        """The tuple (low, high, done, begun, rate)."""
        return (self._low, self._high, self._done, self._begun, self._rate)

    def force(self, low, high, done, begun, rate):
        """Goes on from this state."""
        self._low = low
        self._high = high
        self._done = done
        self._begun = begun
        self._rate = rate

    def _end_try(self, now, granted):
        """Halves the search by what the links say, and begins the next try."""
        asked = times(plus(self._low, self._high), (1, 2))
        if granted:
            self._low = asked
        else:
            self._high = asked
        self._done += 1
        self._begun = now
        if self._done == self.flow.size:
            self.force(ZERO, self.flow.cap, 0, now, self._low)


def sender_of(flow, age):
    """A new sender of the class for the kind of a flow."""
    if flow.kind == "level":
        return LevelSender(flow, age)
    if flow.kind == "eager":
        return EagerSender(flow, age)
    if flow.kind == "window":
        return WindowSender(flow, age)
    return ProbeSender(flow, age)


def _with_total(sender, total):
    """A new sender that has sent so much already."""
    sender.total = total
    return sender
