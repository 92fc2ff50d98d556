"""Worlds once more, straight from the document: with fractions, and with all that ever happened kept."""

from fractions import Fraction

from bandheld.channels import channels
from tests.helpers import fraction, pair
from tests.plain import plain_level

NONE = Fraction(0)


def plain_extras(rest, wants):
    """The extras of wants (weight, fraction): the height rises from one met want to the next."""
    extras = [NONE] * len(wants)
    open_wants = [at for at, (_, want) in enumerate(wants) if want > 0]
    while open_wants and rest > 0:
        weight = sum([wants[at][0] for at in open_wants])
        rise = min([rest / weight] + [(wants[at][1] - extras[at]) / wants[at][0] for at in open_wants])
        for at in open_wants:
            extras[at] += rise * wants[at][0]
        rest -= rise * weight
        open_wants = [at for at in open_wants if extras[at] < wants[at][1]]
    return extras


class PlainWorld:
    def __init__(self, house):
        self.house = house
        self.age = house.age
        self.flows = {part.name: part for part in house.flows()}
        self.links = {part.name: part for part in house.links()}
        self.strange = {part.name for part in house.links() + house.flows() if part.strange}
        self.now = 0
        self.manners = {name: part.manner for name, part in self.flows.items()}
        self.capacities = {name: part.low for name, part in self.links.items()}
        self.words = {}
        self.orders = {}
        self.bag = []
        self.numbers = 0
        self.notes = {channel: (-1, self.at_first(channel)) for channel in channels(house)}
        # From (flow, hop, tick) to fractions; what was stirred is kept apart.
        self.sent = {}
        self.stirred_wires = {}
        self.stirred_sent = {}
        self.held = {(name, hop): NONE for name, part in self.flows.items() for hop in range(1, part.last + 1)}
        self.delivered = {}
        self.spilled = {}
        self.left = {}
        self.levels = {}
        self.allotted = {}
        self.noted = {}
        self.used = {}
        self.probes = {
            name: [NONE, fraction(part.cap), 0, 0, NONE] for name, part in self.flows.items() if part.kind == "probe"
        }
        self.troubles = [0]

    def at_first(self, channel):
        kind, teller, _, name = channel
        if kind == "room":
            part = self.flows[name]
            return dict(zip(part.route, part.buffers))[teller]
        return {"level": (1000, 1), "bit": False, "came": (0, 1), "ask": (0, 1)}.get(kind, self.manners.get(name))

    # What may be done.

    def stir(self, held=(), letters=(), wires=(), buffers=(), sent=(), probes=()):
        for channel, tick, value in held:
            self.notes[channel] = (tick, value)
        for channel, tick, value in letters:
            self.write(channel, tick, value)
        for name, hop, tick, water in wires:
            self.stirred_wires[name, hop, tick] = fraction(water)
        for name, hop, water in buffers:
            self.held[name, hop] = fraction(water)
        for name, hop, tick, water in sent:
            self.stirred_sent[name, hop, tick] = fraction(water)
        for name, low, high, done, begun, rate in probes:
            self.probes[name] = [fraction(low), fraction(high), done, begun, fraction(rate)]

    def write(self, channel, tick, value):
        self.bag.append((self.numbers, channel, tick, value))
        self.numbers += 1

    def lose(self, number):
        self.bag = [letter for letter in self.bag if letter[0] != number]

    def carry(self, number):
        _, channel, tick, value = [letter for letter in self.bag if letter[0] == number][0]
        self.lose(number)
        if tick > self.notes[channel][0]:
            self.notes[channel] = (tick, value)

    def copy_letter(self, number):
        _, channel, tick, value = [letter for letter in self.bag if letter[0] == number][0]
        self.write(channel, tick, value)

    def carry_old(self, age):
        for number in [letter[0] for letter in self.bag if self.now - letter[2] >= age]:
            self.carry(number)

    def change(self, name, manner):
        self.manners[name] = manner
        self.troubles.append(self.now)

    # What is heard.

    def heard(self, channel):
        """The value that counts, None for a silent channel."""
        tick, value = self.notes[channel]
        if tick < self.now - self.age and channel[0] != "came":
            return None
        return value

    def heard_manner(self, name, link):
        told = self.heard(("manner", name, link, name))
        if not told:
            return ()
        most = min(fraction(told[1]), fraction(self.flows[name].cap))
        return (pair(min(fraction(told[0]), fraction(self.flows[name].least), most)), pair(most))

    def heard_level(self, link, reader):
        told = self.heard(("level", link, reader, ""))
        return NONE if told is None else min(fraction(told), Fraction(1000))

    def room_ahead(self, name, hop):
        """The room ahead of a hop, None for no limit."""
        part = self.flows[name]
        if part.kind == "window" or hop == part.last:
            return None
        stops = (name,) + part.route
        channel = ("room", stops[hop + 1], stops[hop], name)
        told = self.heard(channel)
        if told is None:
            return NONE
        room = min(fraction(told), fraction(part.buffers[hop]))
        way = self.house.way_of(name, hop)
        for tick in range(self.notes[channel][0] - way + 1, self.now):
            room -= self.sent.get((name, hop, tick), self.stirred_sent.get((name, hop, tick), NONE))
        return max(room, NONE)

    # A tick.

    def tick(self):
        if not all([
            self.notes[channel][0] >= self.now - self.age for channel in self.notes
            if channel[1] not in self.strange and channel[2] not in self.strange
        ]):
            self.troubles.append(self.now + 1)
        self.arrive()
        for link in self.links:
            if link not in self.strange:
                self.measure(link)
        sends = {(name, 0): self.source(name) for name in self.flows}
        for link in self.links:
            sends.update(self.link_sends(link))
        for (name, hop), water in sends.items():
            self.sent[name, hop, self.now] = water
            if hop > 0:
                self.held[name, hop] -= water
        for name, hop in self.held:
            self.left[name, hop, self.now] = self.held[name, hop]
        self.tell()
        self.now += 1

    def arrive(self):
        for name, part in self.flows.items():
            for hop in range(part.last + 1):
                when = self.now - self.house.way_of(name, hop)
                water = self.sent.get((name, hop, when), self.stirred_wires.get((name, hop, when), NONE))
                if hop == part.last:
                    self.delivered[name, self.now] = water
                else:
                    size = fraction(part.buffers[hop])
                    wanted = self.held[name, hop + 1] + water
                    self.held[name, hop + 1] = min(wanted, size)
                    self.spilled[name, hop + 1, self.now] = max(wanted - size, NONE)

    def measure(self, link):
        wishes = []
        on = [name for name, part in self.flows.items() if link in part.route]
        for name in on:
            bounds = [self.heard_level(other, link) for other in self.flows[name].route if other != link]
            bound = min(bounds + [Fraction(1000)])
            wishes.append((self.heard_manner(name, link), self.flows[name].weight, pair(bound)))
        level = plain_level(self.capacities[link], wishes)
        self.levels[link, self.now] = fraction(level)
        for name, (manner, weight, bound) in zip(on, wishes):
            self.allotted[name, link, self.now] = NONE
            if manner:
                rising = weight * min(fraction(level), fraction(bound))
                self.allotted[name, link, self.now] = max(fraction(manner[0]), min(fraction(manner[1]), rising))
        self.used[link, self.now] = self.capacities[link]
        self.noted[link, self.now] = [
            (channel,) + self.notes[channel] for channel in sorted(self.notes)
            if channel[2] == link and channel[0] in ["level", "manner"] and self.heard(channel) is not None
        ]

    def source(self, name):
        part = self.flows[name]
        if part.strange:
            return min(fraction(part.door), self.orders.get((name, 0), NONE))
        offer = getattr(self, "offer_of_" + part.kind)(part)
        room = self.room_ahead(name, 0)
        if not self.manners[name]:
            return NONE
        return offer if room is None else min(offer, room)

    def offer_of_level(self, part):
        if not self.manners[part.name]:
            return NONE
        least, most = self.manners[part.name]
        level = min([self.heard_level(link, part.name) for link in part.route])
        return max(fraction(least), min(fraction(most), part.weight * level))

    def offer_of_eager(self, part):
        return fraction(part.door)

    def offer_of_window(self, part):
        sent = sum([self.sent[part.name, 0, tick] for tick in range(self.now)], NONE)
        come = fraction(self.notes["came", part.name, part.name, part.name][1])
        return min(fraction(part.door), max(fraction(part.size) - sent + come, NONE))

    def offer_of_probe(self, part):
        low, high, done, begun, rate = self.probes[part.name]
        if not self.manners[part.name]:
            self.probes[part.name] = [NONE, fraction(part.cap), 0, self.now + 1, NONE]
            return NONE
        if self.now - begun < 2 * self.age:
            return rate
        bits = [self.heard(("bit", link, part.name, part.name)) for link in part.route]
        low, high = ((low + high) / 2, high) if all(bits) else (low, (low + high) / 2)
        if done + 1 < part.size:
            self.probes[part.name] = [low, high, done + 1, self.now, rate]
            return rate
        self.probes[part.name] = [NONE, fraction(part.cap), 0, self.now, low]
        return low

    def link_sends(self, link):
        on = [(name, part.route.index(link) + 1) for name, part in self.flows.items() if link in part.route]
        held = {place: self.held[place] for place in on}
        if link in self.strange:
            return {place: min(held[place], self.orders.get(place, NONE)) for place in on}
        limits = []
        for place in on:
            room = self.room_ahead(*place)
            limits.append(held[place] if room is None else min(held[place], room))
        capacity = fraction(self.capacities[link])
        if self.links[link].discipline == "ranks":
            sends = []
            for limit in limits:
                sends.append(min(limit, capacity - sum(sends)))
            return dict(zip(on, sends))
        sends = [min(self.allotted[name, link, self.now], limit) for (name, _), limit in zip(on, limits)]
        if self.links[link].discipline == "spare":
            wants = [(self.flows[name].weight, limit - send) for (name, _), limit, send in zip(on, limits, sends)]
            extras = plain_extras(capacity - sum(sends), wants)
            sends = [send + extra for send, extra in zip(sends, extras)]
        return dict(zip(on, sends))

    def tell(self):
        for channel in sorted(self.notes):
            if channel[1] in self.strange:
                value = self.words.get(channel)
            else:
                value = getattr(self, "told_" + channel[0])(*channel[1:])
            if value is not None:
                self.write(channel, self.now, value)

    def told_level(self, link, reader, _):
        return pair(self.levels[link, self.now])

    def told_manner(self, name, reader, _):
        return self.manners[name]

    def told_room(self, link, reader, name):
        hop = self.flows[name].route.index(link) + 1
        return pair(fraction(self.flows[name].buffers[hop - 1]) - self.held[name, hop])

    def told_came(self, name, *_):
        return pair(sum([self.delivered[name, tick] for tick in range(self.now + 1)], NONE))

    def told_ask(self, name, *_):
        return pair(self.asked(name))

    def told_bit(self, link, name, _):
        asked = self.heard(("ask", name, link, name))
        return asked is not None and fraction(asked) <= self.allotted[name, link, self.now]

    def asked(self, name):
        low, high, _, _, _ = self.probes[name]
        return (low + high) / 2 if self.manners[name] else NONE

    def on_wires(self, name):
        found = NONE
        for hop in range(self.flows[name].last + 1):
            for tick in range(self.now - self.house.way_of(name, hop), self.now):
                found += self.sent.get((name, hop, tick), self.stirred_wires.get((name, hop, tick), NONE))
        return found

    def calm_since(self):
        return max(self.troubles)


def do_both(world, plain, deed):
    """Does a deed in a world and in its second reckoning."""
    world.do(deed)
    word, *told = deed
    if word == "say":
        plain.words[told[0]] = told[1]
    elif word == "hush":
        plain.words.pop(told[0], None)
    elif word == "send":
        plain.orders[told[0], told[1]] = fraction(told[2])
    elif word == "capacity":
        plain.capacities[told[0]] = told[1]
    else:
        getattr(plain, {"copy": "copy_letter"}.get(word, word))(*told)


def check_same(case, world, plain):
    """Fails unless a world is as its second reckoning, and the last tick as well."""
    house = world.house
    case.assertEqual((world.now, world.calm_since), (plain.now, plain.calm_since()))
    case.assertEqual(world.letters(), plain.bag)
    for channel in channels(house):
        case.assertEqual(world.held_note(channel), plain.notes[channel])
    for name, part in plain.flows.items():
        case.assertEqual(world.on_wires(name), pair(plain.on_wires(name)))
        for hop in range(1, part.last + 1):
            case.assertEqual(world.held_now(name, hop), pair(plain.held[name, hop]))
        if part.kind == "probe" and not part.strange:
            case.assertEqual(world.rate(name), pair(plain.probes[name][4]))
            case.assertEqual(world.asked(name), pair(plain.asked(name)))
    if plain.now > 0:
        check_tick(case, world, plain, plain.now - 1)


def check_tick(case, world, plain, tick):
    """Fails unless what was played in a tick is as in the second reckoning."""
    for link in plain.links:
        if link not in plain.strange:
            case.assertEqual(world.level_at(link, tick), pair(plain.levels[link, tick]))
            for name in world.house.on(link):
                case.assertEqual(world.allotment_at(name, link, tick), pair(plain.allotted[name, link, tick]))
    for name, part in plain.flows.items():
        case.assertEqual(world.delivered_at(name, tick), pair(plain.delivered[name, tick]))
        for hop in range(part.last + 1):
            case.assertEqual(world.sent_at(name, hop, tick), pair(plain.sent[name, hop, tick]))
            if hop > 0:
                case.assertEqual(world.held_at(name, hop, tick), pair(plain.left[name, hop, tick]))
                case.assertEqual(world.spilled_at(name, hop, tick), pair(plain.spilled[name, hop, tick]))
