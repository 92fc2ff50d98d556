"""Stirs: the states in which a world may begin."""

from bandheld.amounts import compare, is_amount
from bandheld.basics import is_number_within
from bandheld.channels import is_value
from bandheld.errors import BadState

PARTS = ("held", "letters", "wires", "buffers", "sent", "probes")


def check_stir(net, told):
    """Refuses the first wrong entry of the six lists of entries."""
    for what, entries in zip(PARTS, told):
        if not isinstance(entries, (list, tuple)):
            raise BadState(what, -1)
        for at, entry in enumerate(entries):
            if not _is_entry(net, what, entry):
                raise BadState(what, at)


def _is_entry(net, what, entry):
    """Whether any value is an entry of such a list."""
    if what in ("held", "letters"):
        return _is_note(net, entry)
    if what == "wires":
        return _is_sending(net, entry, 0)
    if what == "sent":
        return _is_sending(net, entry, net.age)
    if what == "buffers":
        return _is_filled(net, entry)
    return _is_probe(net, entry)


def _is_long(value, many):
    return isinstance(value, tuple) and len(value) == many


def _is_note(net, entry):
    """Whether any value is (channel, tick, value) with a tick that counts at the tick 0."""
    if not _is_long(entry, 3):
        return False
    channel, tick, value = entry
    if not net.has_channel(channel) or channel[0] == "came":
        return False
    return is_number_within(tick, -net.age, -1) and is_value(channel, value)


def _is_sending(net, entry, more):
    """Whether any value is (flow, hop, tick, amount), as old as the way of the hop and more ticks."""
    if not _is_long(entry, 4):
        return False
    name, hop, tick, water = entry
    if not _is_hop(net, name, hop, 0):
        return False
    return is_number_within(tick, -net.ways[(name, hop)] - more, -1) and is_amount(water)


def _is_filled(net, entry):
    """Whether any value is (flow, hop, amount) with an amount that the buffer there can hold."""
    if not _is_long(entry, 3):
        return False
    name, hop, water = entry
    if not _is_hop(net, name, hop, 1):
        return False
    return _is_at_most(water, net.flow_table[name].buffers[hop - 1])


def _is_hop(net, name, hop, first):
    """Whether any two values are a flow that may be stirred, and a hop of it from the first one on."""
    if not isinstance(name, str) or name not in net.flow_table:
        return False
    flow = net.flow_table[name]
    return flow.kind != "window" and is_number_within(hop, first, flow.last)


def _is_probe(net, entry):
    """Whether any value is (flow, low, high, done, begun, rate) of a true probe."""
    if not _is_long(entry, 6):
        return False
    name, low, high, done, begun, rate = entry
    if not isinstance(name, str) or name not in net.flow_table:
        return False
    flow = net.flow_table[name]
    if flow.kind != "probe" or flow.strange:
        return False
    if not _is_at_most(high, flow.cap) or not _is_at_most(low, high) or not _is_at_most(rate, flow.cap):
        return False
    return is_number_within(done, 0, flow.size - 1) and is_number_within(begun, -2 * net.age, 0)


def _is_at_most(value, bound):
    """Whether any value is an amount of at most another one."""
    return is_amount(value) and compare(value, bound) <= 0


def do_stir(stage, told):
    """Brings a stage that was not played yet into the state of these entries."""
    held, letters, wires, buffers, sent, probes = told
    for channel, tick, value in held:
        stage.ears[channel[2]].force(channel, tick, value)
    for channel, tick, value in letters:
        stage.bag.put(channel, tick, value)
    for flow, hop, tick, water in wires:
        stage.wires[(flow, hop)].put(tick, water)
    for flow, hop, water in buffers:
        stage.buffers[(flow, hop)].set_to(water)
    for flow, hop, tick, water in sent:
        stage.hops[(flow, hop)].remember(tick, water)
    for flow, low, high, done, begun, rate in probes:
        stage.senders[flow].force(low, high, done, begun, rate)
