"""Stages: all that changes in a world."""

from bandheld.amounts import ZERO
from bandheld.buffers import Buffer
from bandheld.channels import first_value
from bandheld.ears import Ears
from bandheld.hops import Hop
from bandheld.letters import Bag
from bandheld.senders import sender_of
from bandheld.trails import Trail
from bandheld.wires import Wire


class Stage:
    """The state of a world between two ticks, and what led to it."""

    def __init__(self):
        self.coming = 0
        self.calm = 0
        self.manners = {}
        self.capacities = {}
        self.words = {}
        self.orders = {}
        self.ears = {}
        self.bag = Bag()
        self.wires = {}
        self.hops = {}
        self.buffers = {}
        self.senders = {}
        self.come = {}
        self.trail = Trail()
        self.done = []

    def copy(self):
        """A stage with the same state, which shares nothing that changes with this one."""
        other = Stage()
        other.coming = self.coming
        other.calm = self.calm
        other.manners = dict(self.manners)
        other.capacities = dict(self.capacities)
        other.words = {channel: word for channel, word in self.words.items()}
        other.orders = {place: water for place, water in self.orders.items()}
        other.ears = {name: ears.copy() for name, ears in self.ears.items()}
        other.bag = self.bag.copy()
        other.wires = {place: wire.copy() for place, wire in self.wires.items()}
        other.hops = {place: hop.copy() for place, hop in self.hops.items()}
        other.buffers = {place: buffer.copy() for place, buffer in self.buffers.items()}
        other.senders = {name: sender.copy() for name, sender in self.senders.items()}
        other.come = dict(self.come)
        other.trail = self.trail.copy()
        other.done = list(self.done)
        return other


def first_stage(net):
    """The stage of a new world of the house of a net."""
    stage = Stage()
    for link in net.link_table.values():
        stage.capacities[link.name] = link.low
        stage.ears[link.name] = Ears(net.age)
    for flow in net.flow_table.values():
        stage.ears[flow.name] = Ears(net.age)
        _place_flow(net, stage, flow)
    for channel in net.known:
        stage.ears[channel[2]].force(channel, -1, first_value(net.base, channel))
    return stage


def _place_flow(net, stage, flow):
    """Puts in what a new world keeps for a flow."""
    stage.manners[flow.name] = flow.manner
    stage.come[flow.name] = ZERO
    if not flow.strange:
        stage.senders[flow.name] = sender_of(flow, net.age)
    for hop in range(flow.last + 1):
        way = net.ways[(flow.name, hop)]
        stage.wires[(flow.name, hop)] = Wire(way)
        stage.hops[(flow.name, hop)] = Hop(way, net.age)
    for at, size in enumerate(flow.buffers):
        stage.buffers[(flow.name, at + 1)] = Buffer(size)
