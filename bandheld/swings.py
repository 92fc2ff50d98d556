"""Swings: the runs in which the levels meet both ends of all bands."""

from bandheld.amounts import TOP, ZERO
from bandheld.basics import is_number_within
from bandheld.channels import channels
from bandheld.errors import BadCount
from bandheld.worlds import World

MOST_TURNS = 400


def lead(world, turns, *, low_first=True):
    """Leads a world through turns, each as long as the age of its house."""
    if not is_number_within(turns, 0, MOST_TURNS):
        raise BadCount(turns)
    for turn in range(turns):
        _lead_turn(world, (turn % 2 == 0) == low_first)


def swing(house, turns, *, from_top=True):
    """The world of a swing that was led through turns."""
    world = World(house)
    told = _told_at(house)
    world.stir(held=[(channel, -1, _extreme(house, channel, from_top)) for channel in told])
    lead(world, turns, low_first=from_top)
    return world


def _lead_turn(world, low):
    """One turn, with the side low or with the side high."""
    house = world.house
    for link in house.links():
        if link.is_shaky():
            world.set_capacity(link.name, link.low if low else link.capacity)
    # A word is heard in the turn behind the one in which it is told, and there
    # the side is the other one.
    for channel in _told_at(house):
        if _has_strange_teller(house, channel):
            world.say(channel, _extreme(house, channel, not low))
    for _ in range(house.age):
        world.carry_old(house.age)
        world.tick()


def _told_at(house):
    """The channels of the kinds level and manner, ascending."""
    return [channel for channel in channels(house) if channel[0] in ("level", "manner")]


def _has_strange_teller(house, channel):
    if channel[0] == "level":
        return house.link_of(channel[1]).strange
    return house.flow_of(channel[1]).strange


def _extreme(house, channel, low):
    """What brings levels down most if low, and up most otherwise."""
    kind, _, _, name = channel
    if kind == "level":
        return TOP if low else ZERO
    if low:
        flow = house.flow_of(name)
        return (flow.least, flow.cap)
    return ()
