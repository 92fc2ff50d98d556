"""Links, which carry water at a capacity."""

from bandheld.amounts import ZERO, amount_text, compare, is_small
from bandheld.basics import is_name, is_number_within
from bandheld.errors import BadLink

DISCIPLINES = ("own", "spare", "ranks")
LONGEST_WAY = 20


class Link:
    """A link: its capacity may fall to low, and its way is a number of ticks."""

    def __init__(self, name, capacity, *, low=None, way=1, discipline="own", strange=False):
        if not is_name(name):
            raise BadLink("name")
        if not _is_capacity(capacity, capacity):
            raise BadLink("capacity")
        if low is None:
            low = capacity
        if not _is_capacity(low, capacity):
            raise BadLink("low")
        if not is_number_within(way, 1, LONGEST_WAY):
            raise BadLink("way")
        if discipline not in DISCIPLINES:
            raise BadLink("discipline")
        if not isinstance(strange, bool):
            raise BadLink("strange")
        self.name = name
        self.capacity = capacity
        self.low = low
        self.way = way
        self.discipline = discipline
        self.strange = strange

    def is_shaky(self):
        """Whether the capacity may fall."""
        return self.low != self.capacity

    def as_strange(self):
        """This link as a strange one."""
        return Link(
            self.name,
            self.capacity,
            low=self.low,
            way=self.way,
            discipline=self.discipline,
            strange=True,
        )

    def __eq__(self, other):
        return (
            isinstance(other, Link)
            and self.name == other.name
            and self.capacity == other.capacity
            and self.low == other.low
            and self.way == other.way
            and self.discipline == other.discipline
            and self.strange == other.strange
        )

    def __repr__(self):
        return f"Link({self.name}, {_range_text(self.low, self.capacity)})"


def _is_capacity(value, most):
    """Whether any value is a small amount above 0 and at most another one."""
    return is_small(value) and value != ZERO and compare(value, most) <= 0


def _range_text(low, high):
    """The text of an amount, or of two different ones."""
    if low == high:
        return amount_text(high)
    return f"{amount_text(low)} to {amount_text(high)}"
