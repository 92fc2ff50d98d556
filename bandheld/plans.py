"""Plans: the fewest flows that break a floor, and how large buffers and windows must be."""

from bandheld.amounts import compare, times
from bandheld.basics import is_number_within
from bandheld.boxes import floor_of, floors
from bandheld.errors import BadCount, UnknownName
from bandheld.houses import true_flow_of

MOST_BREAKERS = 5


def subsets(names, most):
    """The ascending tuples of at most that many names, shorter ones first."""
    ordered = sorted(names)
    for length in range(min(most, len(ordered)) + 1):
        places = list(range(length))
        while places is not None:
            yield tuple([ordered[at] for at in places])
            places = _next_places(places, len(ordered))


def _next_places(places, many):
    """The places, below many, that follow these ascending ones, or None behind the last ones."""
    length = len(places)
    for at in reversed(range(length)):
        first = places[at] + 1
        further = list(range(first, first + length - at))
        if further[-1] < many:
            return places[:at] + further
    return None


def fewest_breakers(house, flow, floor, *, among, most=3):
    """The fewest of some flows that, as strange ones, bring the floor of a flow below an amount."""
    true_flow_of(house, flow)
    for name in among:
        if house.flow_of(name).name == flow:
            raise UnknownName(name)
    if not is_number_within(most, 0, MOST_BREAKERS):
        raise BadCount(most)
    names = sorted(set(among))
    for chosen in subsets(names, most):
        if compare(floor_of(house.with_strange(*chosen), flow), floor) < 0:
            return list(chosen)
    return None


def need_of(house, flow, hop):
    """The least size of the buffer ahead of a hop, or of a window for the hop 0; None if there is none."""
    ticks = _ticks_of_need(house, flow, hop)
    if ticks is None:
        return None
    return times(floor_of(house, flow), (ticks, 1))


def with_needs(house):
    """The house in which buffers and windows have just the sizes that they need."""
    found = house
    kept = floors(house)
    for flow in house.flows():
        if house.is_clear(flow.name) and flow.kind != "probe":
            found = found.with_flow(_fitted(house, flow, kept[flow.name]))
    return found


def _ticks_of_need(house, flow, hop):
    """In how many ticks the floor comes together to the need of a hop; None if it has none."""
    way = house.way_of(flow, hop)
    part = house.flow_of(flow)
    if not house.is_clear(flow):
        return None
    if part.kind == "window" and hop == 0:
        return house.length(flow) + house.age
    if part.kind in ("level", "eager") and hop < part.last:
        return way + house.age
    return None


def _fitted(house, flow, floor):
    """A flow with needs, with just these as its buffers and its size."""
    if flow.kind == "window":
        size = times(floor, (_ticks_of_need(house, flow.name, 0), 1))
        return flow.with_buffers([size] * flow.last, size)
    ticks = [_ticks_of_need(house, flow.name, hop) for hop in range(flow.last)]
    return flow.with_buffers([times(floor, (many, 1)) for many in ticks])
