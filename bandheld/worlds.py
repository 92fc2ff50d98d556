"""Worlds: a house that is played tick by tick."""

from bandheld.amounts import compare, is_amount, plus
from bandheld.basics import is_number_within
from bandheld.channels import is_value
from bandheld.deeds import is_deed
from bandheld.errors import (
    BadAmount,
    BadCapacity,
    BadCount,
    BadDeed,
    BadValue,
    NotShaky,
    NotStrange,
    Started,
    UnknownChannel,
    UnknownHop,
    UnknownName,
)
from bandheld.houses import House, true_flow_of
from bandheld.nets import Net
from bandheld.stages import first_stage
from bandheld.stirs import check_stir, do_stir
from bandheld.ticks import play_tick

MOST_TICKS = 2000


class World:
    """A house with its letters and its water, from tick to tick."""

    def __init__(self, house):
        self._net = Net(house)
        # One attribute holds all that changes, so that a trial can put it back.
        self.stage = first_stage(self._net)

    @property
    def house(self):
        """The house that the world was made of."""
        return self._net.base

    @property
    def now(self):
        """The number of the coming tick."""
        return self.stage.coming

    @property
    def calm_since(self):
        """From which tick on all ticks were prompt and no manner changed."""
        return self.stage.calm

    def letters(self):
        """The letters under way, ascending."""
        return self.stage.bag.letters()

    def carry(self, number):
        """Carries a letter to its reader."""
        self._hand_over(number)
        self.stage.done.append(("carry", number))

    def lose(self, number):
        """Takes a letter away."""
        self.stage.bag.take(number)
        self.stage.done.append(("lose", number))

    def copy_letter(self, number):
        """Copies a letter; returns the number of the copy."""
        found = self.stage.bag.double(number)
        self.stage.done.append(("copy", number))
        return found

    def carry_old(self, age=1):
        """Carries all letters that are at least so many ticks old; returns how many."""
        _check_count(age, 1)
        letters = self.stage.bag.older(self.stage.coming - age)
        for letter in letters:
            self._hand_over(letter[0])
        self.stage.done.append(("carry_old", age))
        return len(letters)

    def _hand_over(self, number):
        stage = self.stage
        _, channel, tick, value = stage.bag.take(number)
        stage.ears[channel[2]].hear(channel, tick, value, stage.coming)

    def held_note(self, channel):
        """The pair (tick, value) that the reader of a channel holds."""
        self._check_channel(channel)
        return self.stage.ears[channel[2]].note(channel)

    def say(self, channel, value):
        """From now on a strange teller says this on a channel."""
        self._check_teller(channel)
        if not is_value(channel, value):
            raise BadValue(channel)
        self.stage.words[channel] = value
        self.stage.done.append(("say", channel, value))

    def hush(self, channel):
        """From now on a strange teller says nothing on a channel."""
        self._check_teller(channel)
        if channel in self.stage.words:
            del self.stage.words[channel]
        self.stage.done.append(("hush", channel))

    def _check_channel(self, channel):
        if not self._net.has_channel(channel):
            raise UnknownChannel(channel)

    def _check_teller(self, channel):
        self._check_channel(channel)
        if not self._net.is_strange(channel[1]):
            raise NotStrange(channel[1])

    def send(self, flow, hop, water):
        """From now on a strange source, or a strange link for a flow, sends so much in each tick."""
        self._check_hop(flow, hop, 0)
        part = flow if hop == 0 else self.house.flow_of(flow).route[hop - 1]
        if not self._net.is_strange(part):
            raise NotStrange(part)
        if not is_amount(water):
            raise BadAmount(water)
        self.stage.orders[(flow, hop)] = water
        self.stage.done.append(("send", flow, hop, water))

    def set_capacity(self, link, capacity):
        """From now on a shaky link has this capacity."""
        part = self.house.link_of(link)
        if not part.is_shaky():
            raise NotShaky(link)
        if not is_amount(capacity) or compare(capacity, part.low) < 0 or compare(capacity, part.capacity) > 0:
            raise BadCapacity(link)
        self.stage.capacities[link] = capacity
        self.stage.done.append(("capacity", link, capacity))

    def change(self, flow, manner):
        """From now on a true flow has this manner."""
        changed = true_flow_of(self.house, flow).with_manner(manner)
        stage = self.stage
        stage.manners[flow] = changed.manner
        stage.calm = max(stage.calm, stage.coming)
        stage.done.append(("change", flow, manner))

    def present(self):
        """The house with the present manners."""
        house = self.house
        flows = [flow.with_manner(self.stage.manners[flow.name]) for flow in house.flows()]
        parts = house.links() + flows
        return House(house.age, *parts)

    def stir(self, *, held=(), letters=(), wires=(), buffers=(), sent=(), probes=()):
        """Brings a world that has played no tick into another state."""
        stage = self.stage
        if stage.coming != 0:
            raise Started(stage.coming)
        told = (held, letters, wires, buffers, sent, probes)
        check_stir(self._net, told)
        do_stir(stage, told)
        stage.done.append(("stir",) + tuple([tuple(entries) for entries in told]))

    def tick(self):
        """Plays the coming tick."""
        play_tick(self._net, self.stage)
        self.stage.done.append(("tick",))

    def run(self, count, *, age=1):
        """Plays so many ticks, ahead of each of which all old letters are carried."""
        _check_count(count, 0)
        _check_count(age, 1)
        for _ in range(count):
            self.carry_old(age)
            self.tick()

    def level_at(self, link, tick):
        """The level that a true link had."""
        if self.house.link_of(link).strange:
            raise UnknownName(link)
        return self.stage.trail.page(tick).level[link]

    def allotment_at(self, flow, link, tick):
        """The allotment that a flow had at a true link of its route."""
        route = self.house.flow_of(flow).route
        if link not in route or self._net.is_strange(link):
            raise UnknownName(link)
        return self.stage.trail.page(tick).allotted[(flow, link)]

    def sent_at(self, flow, hop, tick):
        """What a hop sent."""
        self._check_hop(flow, hop, 0)
        return self.stage.trail.page(tick).sent[(flow, hop)]

    def held_at(self, flow, hop, tick):
        """What the buffer at a hop held at the end of a tick."""
        self._check_hop(flow, hop, 1)
        return self.stage.trail.page(tick).left[(flow, hop)]

    def spilled_at(self, flow, hop, tick):
        """What was spilled at the buffer at a hop."""
        self._check_hop(flow, hop, 1)
        return self.stage.trail.page(tick).spilled[(flow, hop)]

    def delivered_at(self, flow, tick):
        """What came to the end of a flow."""
        self.house.flow_of(flow)
        return self.stage.trail.page(tick).come[flow]

    def _check_hop(self, flow, hop, first):
        last = self.house.flow_of(flow).last
        if not is_number_within(hop, first, last):
            raise UnknownHop(hop)

    def delivered(self, flow, first, last):
        """What came to the end of a flow in those ticks from first to last that were played."""
        self.house.flow_of(flow)
        found = [page.come[flow] for page in self.stage.trail.pages(first, last)]
        return plus(*found)

    def on_wires(self, flow):
        """What is on the wires of a flow."""
        last = self.house.flow_of(flow).last
        wires = [self.stage.wires[(flow, hop)] for hop in range(last + 1)]
        # What arrives at the coming tick has not left its wire yet.
        found = [wire.under_way(self.stage.coming - 1) for wire in wires]
        return plus(*found)

    def held_now(self, flow, hop):
        """What the buffer at a hop holds."""
        self._check_hop(flow, hop, 1)
        return self.stage.buffers[(flow, hop)].held

    def rate(self, flow):
        """The rate that a true probe keeps."""
        return self._probe(flow).state()[4]

    def asked(self, flow):
        """What a true probe asks now."""
        return self._probe(flow).asks(self.stage.manners[flow])

    def _probe(self, flow):
        """The sender of a true probe."""
        if true_flow_of(self.house, flow).kind != "probe":
            raise UnknownName(flow)
        return self.stage.senders[flow]

    def book(self):
        """The rows (tick, link, capacity, heard, level) of all ticks that were played."""
        pages = self.stage.trail.pages(0, self.stage.coming - 1)
        return [
            (tick, link, page.capacity[link], list(page.noted[link]), page.level[link])
            for tick, page in enumerate(pages)
            for link in self._net.true_links
        ]

    def deeds(self):
        """What was done in this world, in order."""
        return list(self.stage.done)

    def do(self, deed):
        """Does any value as a deed; returns what its method returns."""
        if not is_deed(deed):
            raise BadDeed(0)
        word, *told = deed
        if word == "tick":
            return self.tick()
        if word == "carry":
            return self.carry(*told)
        if word == "copy":
            return self.copy_letter(*told)
        if word == "lose":
            return self.lose(*told)
        if word == "carry_old":
            return self.carry_old(*told)
        if word == "say":
            return self.say(*told)
        if word == "hush":
            return self.hush(*told)
        if word == "send":
            return self.send(*told)
        if word == "capacity":
            return self.set_capacity(*told)
        if word == "change":
            return self.change(*told)
        held, letters, wires, buffers, sent, probes = told
        return self.stir(
            held=held, letters=letters, wires=wires, buffers=buffers, sent=sent, probes=probes)

    def copy(self):
        """A world that goes on from the same state, and shares nothing with this one."""
        other = World(self.house)
        other.stage = self.stage.copy()
        return other

    def __eq__(self, other):
        return (
            isinstance(other, World)
            and self._net.base == other._net.base
            and self.stage.done == other.stage.done
        )

    def __repr__(self):
        links = len(self._net.link_table)
        flows = len(self._net.flow_table)
        return f"World({links} links, {flows} flows, tick {self.stage.coming})"


def _check_count(value, least):
    """Refuses any value that is no count of ticks of at least this."""
    if not is_number_within(value, least, MOST_TICKS):
        raise BadCount(value)
