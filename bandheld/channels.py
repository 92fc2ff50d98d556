"""Channels: along which links and flows tell something to each other."""

from bandheld.amounts import TOP, ZERO, is_amount
from bandheld.errors import UnknownName

KINDS = ("ask", "bit", "came", "level", "manner", "room")


def channels(house):
    """The ascending list of the channels of a house."""
    found = _between_links(house)
    for flow in house.flows():
        found.extend(_of_flow(flow))
    return sorted(found)


def channels_to(house, name):
    """The channels with a reader."""
    if name not in house:
        raise UnknownName(name)
    return [channel for channel in channels(house) if channel[2] == name]


def channels_from(house, name):
    """The channels with a teller."""
    if name not in house:
        raise UnknownName(name)
    return [channel for channel in channels(house) if channel[1] == name]


def is_true(house, channel):
    """Whether neither the teller nor the reader of a channel is strange."""
    strangers = [part.name for part in house.links() + house.flows() if part.strange]
    return channel[1] not in strangers and channel[2] not in strangers


def is_value(channel, value):
    """Whether any value is one that can be told on a channel."""
    kind = channel[0]
    if kind == "bit":
        return isinstance(value, bool)
    if kind == "manner":
        return _is_told_manner(value)
    return is_amount(value)


def first_value(house, channel):
    """The value that the reader of a channel holds at first."""
    kind, teller, _, flow = channel
    if kind == "level":
        return TOP
    if kind == "manner":
        return house.flow_of(flow).manner
    if kind == "room":
        part = house.flow_of(flow)
        return part.buffers[part.route.index(teller)]
    if kind == "bit":
        return False
    return ZERO


def _is_told_manner(value):
    """Whether any value is empty or a pair of two amounts, also with the greater one first."""
    if not isinstance(value, tuple):
        return False
    return len(value) == 0 or (len(value) == 2 and is_amount(value[0]) and is_amount(value[1]))


def _between_links(house):
    """The channels from each link to each other one that has a flow in common with it."""
    names = [link.name for link in house.links()]
    found = []
    for teller in names:
        for reader in names:
            if teller != reader and any([flow in house.on(reader) for flow in house.on(teller)]):
                found.append(("level", teller, reader, ""))
    return found


def _of_flow(flow):
    """The channels between a flow and the links of its route, and those of its buffers."""
    found = []
    ahead = flow.name
    for link in flow.route:
        found.append(flow.channel_of("manner", link))
        if flow.kind == "level":
            found.append(("level", link, flow.name, ""))
        if flow.kind == "probe":
            found.append(flow.channel_of("ask", link))
            found.append(flow.channel_of("bit", link))
        if flow.kind != "window":
            found.append(("room", link, ahead, flow.name))
        ahead = link
    if flow.kind == "window":
        found.append(("came", flow.name, flow.name, flow.name))
    return found
