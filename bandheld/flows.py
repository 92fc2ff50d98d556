"""Flows, which send water over a route of links."""

from bandheld.amounts import TOP, ZERO, compare, is_amount, is_small
from bandheld.basics import is_name, is_number_within
from bandheld.errors import BadFlow, BadManner
from bandheld.shares import is_manner

KINDS = ("level", "eager", "window", "probe")
LARGEST_BUFFER = (1000000, 1)
LONGEST_ROUTE = 5
LONGEST_WAY = 20
MOST_WEIGHT = 12
MOST_TRIES = 12


class Flow:
    """A flow: its route, its buffers there, what is promised to it and what it wishes."""

    def __init__(self, name, route, buffers, *, kind="level", size=None, weight=1, least=ZERO,
                 cap=TOP, door=None, way=1, manner=None, strange=False):
        _check_place(name, route, buffers)
        _check_kind(kind, size)
        _check_promise(weight, least, cap)
        if door is None:
            door = cap
        if not is_small(door) or compare(cap, door) > 0:
            raise BadFlow("door")
        if not is_number_within(way, 1, LONGEST_WAY):
            raise BadFlow("way")
        if manner is None:
            manner = (least, cap)
        if not _is_manner_within(manner, least, cap):
            raise BadFlow("manner")
        if not isinstance(strange, bool):
            raise BadFlow("strange")
        self.name = name
        self.route = tuple(route)
        self.buffers = tuple(buffers)
        self.kind = kind
        self.size = size
        self.weight = weight
        self.least = least
        self.cap = cap
        self.door = door
        self.way = way
        self.manner = manner
        self.strange = strange
        self.last = len(self.route)

    def is_gone(self):
        """Whether the flow wishes nothing at all."""
        return self.manner == ()

    def channel_of(self, kind, link):
        """The channel of a manner, an ask or a bit of this flow at a link of its route."""
        if kind == "bit":
            return (kind, link, self.name, self.name)
        return (kind, self.name, link, self.name)

    def with_manner(self, manner):
        """This flow with another manner."""
        if not _is_manner_within(manner, self.least, self.cap):
            raise BadManner(self.name)
        return self._changed(self.buffers, self.size, manner, self.strange)

    def with_buffers(self, buffers, size=None):
        """This flow with other buffers, and with another size unless this is None."""
        if size is None:
            size = self.size
        return self._changed(buffers, size, self.manner, self.strange)

    def as_strange(self):
        """This flow as a strange one."""
        return self._changed(self.buffers, self.size, self.manner, True)

    def _changed(self, buffers, size, manner, strange):
        return Flow(
            self.name,
            self.route,
            buffers,
            kind=self.kind,
            size=size,
            weight=self.weight,
            least=self.least,
            cap=self.cap,
            door=self.door,
            way=self.way,
            manner=manner,
            strange=strange,
        )

    def __eq__(self, other):
        return (
            isinstance(other, Flow)
            and self.name == other.name
            and self.route == other.route
            and self.buffers == other.buffers
            and self.kind == other.kind
            and self.size == other.size
            and self.weight == other.weight
            and self.least == other.least
            and self.cap == other.cap
            and self.door == other.door
            and self.way == other.way
            and self.manner == other.manner
            and self.strange == other.strange
        )

    def __repr__(self):
        return f"Flow({self.name}, {' '.join(self.route)})"


def _check_place(name, route, buffers):
    """Refuses the first of these that is wrong."""
    if not is_name(name):
        raise BadFlow("name")
    if not _is_route(route):
        raise BadFlow("route")
    if not _are_buffers(buffers, len(route)):
        raise BadFlow("buffers")


def _is_route(value):
    """Whether any value is a list or tuple of 1 to 5 different names."""
    if not isinstance(value, (list, tuple)) or not 1 <= len(value) <= LONGEST_ROUTE:
        return False
    return all([is_name(link) for link in value]) and len(set(value)) == len(value)


def _are_buffers(value, many):
    """Whether any value is a list or tuple of that many sizes of buffers."""
    if not isinstance(value, (list, tuple)) or len(value) != many:
        return False
    return all([_is_size(size) for size in value])


def _is_size(value):
    """Whether any value is the size of a buffer or a window."""
    return is_amount(value) and compare(value, LARGEST_BUFFER) <= 0


def _check_kind(kind, size):
    """Refuses the first of these that is wrong."""
    if kind not in KINDS:
        raise BadFlow("kind")
    if not _fits_kind(kind, size):
        raise BadFlow("size")


def _fits_kind(kind, size):
    """Whether any value is a size for this kind."""
    if kind == "window":
        return _is_size(size)
    if kind == "probe":
        return is_number_within(size, 1, MOST_TRIES)
    return size is None


def _check_promise(weight, least, cap):
    """Refuses the first of these that is wrong."""
    if not is_number_within(weight, 1, MOST_WEIGHT):
        raise BadFlow("weight")
    if not is_small(least):
        raise BadFlow("least")
    if not is_small(cap) or compare(least, cap) > 0:
        raise BadFlow("cap")


def _is_manner_within(value, least, cap):
    """Whether any value is a manner with at most these wishes."""
    if not is_manner(value):
        return False
    return value == () or (compare(value[0], least) <= 0 and compare(value[1], cap) <= 0)
