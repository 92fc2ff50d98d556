"""Hearing: how told values are cut, and what a link makes of them."""

from bandheld.amounts import TOP, ZERO, smallest
from bandheld.shares import cut_manner


def cut_value(net, channel, value):
    """What is heard on a channel when this value is told there."""
    kind, teller, _, name = channel
    if kind == "level":
        return smallest(value, TOP)
    if kind == "manner":
        flow = net.flow_table[name]
        return cut_manner(value, flow.least, flow.cap)
    if kind == "room":
        flow = net.flow_table[name]
        return smallest(value, flow.buffers[flow.route.index(teller)])
    return value


def wishes_at(net, link, heard):
    """The wishes at a link, from the dict of what is heard on the channels that are not silent."""
    return [_wish(flow, link, heard) for flow in net.crowds[link]]


def _wish(flow, link, heard):
    manner = heard.get(flow.channel_of("manner", link), ())
    levels = [heard.get(("level", other, link, ""), ZERO) for other in flow.route if other != link]
    return (manner, flow.weight, smallest(TOP, *levels))
