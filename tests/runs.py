"""Houses and deeds for worlds: some told, and some drawn; and swings, deed by deed."""

from bandheld.amounts import ONE, TOP, ZERO
from bandheld.channels import channels
from bandheld.houses import House
from bandheld.links import Link
from bandheld.worlds import World
from tests.helpers import flow, fraction, pair, random_amount, random_house


def with_sizes(rng, house, most=9):
    """The house with drawn buffers and windows."""
    found = house
    for part in house.flows():
        size = pair(fraction(random_amount(rng, most))) if part.kind == "window" else None
        least = fraction(size or ZERO)
        buffers = [pair(least + fraction(random_amount(rng, most))) for _ in part.route]
        found = found.with_flow(part.with_buffers(buffers, size))
    return found


def drawn_house(rng, strange=0.25, shaky=0.3, age=None, most=9):
    """A house of any kind, of a short age."""
    house = random_house(rng, strange, shaky)
    house = House(age or rng.randint(1, 4), *house.links(), *house.flows())
    return with_sizes(rng, house, most)


def drawn_value(rng, house, channel):
    """A value that may be told on a channel."""
    if channel[0] == "bit":
        return rng.random() < 0.5
    if channel[0] != "manner":
        return rng.choice([ZERO, TOP, (1001, 1), (10 ** 39, 7), random_amount(rng, 9), random_amount(rng, 9)])
    part = house.flow_of(channel[3])
    return rng.choice([
        (), (part.least, part.cap), (ZERO, TOP), (TOP, ZERO), (random_amount(rng), random_amount(rng)), part.manner,
    ])


def drawn_manner(rng, part):
    return rng.choice([(), (ZERO, part.cap), (part.least, part.least), (ZERO, ZERO), part.manner, part.manner])


def drawn_stir(rng, house):
    """The parameters of a stir."""
    age = house.age
    told = [channel for channel in channels(house) if channel[0] != "came"]
    flows = [part for part in house.flows() if part.kind != "window"]
    stir = {name: [] for name in ["held", "letters", "wires", "buffers", "sent", "probes"]}
    for _ in range(rng.randint(0, 12)):
        if told:
            channel = rng.choice(told)
            entry = (channel, rng.randint(-age, -1), drawn_value(rng, house, channel))
            stir[rng.choice(["held", "letters"])].append(entry)
        if flows:
            part = rng.choice(flows)
            hop = rng.randint(0, part.last)
            way = house.way_of(part.name, hop)
            stir["wires"].append((part.name, hop, -rng.randint(1, way), random_amount(rng, 5)))
            stir["sent"].append((part.name, hop, -rng.randint(1, way + age), random_amount(rng, 5)))
            if hop > 0:
                stir["buffers"].append((part.name, hop, rng.choice([ZERO, part.buffers[hop - 1]])))
            if part.kind == "probe" and not part.strange:
                ends = sorted([fraction(part.cap) * rng.randint(0, 4) / 4 for _ in range(2)])
                stir["probes"].append((
                    part.name, pair(ends[0]), pair(ends[1]), rng.randint(0, part.size - 1), -rng.randint(0, 2 * age),
                    pair(fraction(part.cap) * rng.randint(0, 3) / 3),
                ))
    return stir


def drawn_deeds(rng, world, changes=0.1):
    """Some deeds of strangers, of shaky links and of flows that change."""
    house = world.house
    deeds = []
    for channel in channels(house):
        strange = (house.flow_of if channel[1] in [part.name for part in house.flows()] else house.link_of)(channel[1])
        if strange.strange and rng.random() < 0.4:
            if rng.random() < 0.2:
                deeds.append(("hush", channel))
            else:
                deeds.append(("say", channel, drawn_value(rng, house, channel)))
    for part in house.flows():
        for hop in range(part.last + 1):
            owner = part if hop == 0 else house.link_of(part.route[hop - 1])
            if owner.strange and rng.random() < 0.4:
                deeds.append(("send", part.name, hop, random_amount(rng, 9)))
        if not part.strange and rng.random() < changes:
            deeds.append(("change", part.name, drawn_manner(rng, part)))
    for link in house.links():
        if link.is_shaky() and rng.random() < 0.5:
            middle = pair((fraction(link.low) + 2 * fraction(link.capacity)) / 3)
            deeds.append(("capacity", link.name, rng.choice([link.low, link.capacity, middle])))
    return deeds


def drawn_letters(rng, world, lost=0.0, late=0):
    """Deeds that carry letters in any order: all of the age of the house if none is lost or late."""
    deeds = []
    copies = 0
    numbers = [letter[0] for letter in world.letters()]
    rng.shuffle(numbers)
    for number in numbers:
        chance = rng.random()
        if chance < lost:
            deeds.append(("lose", number))
        elif chance < 0.3 and len(numbers) + copies < 600:
            deeds.append(("copy", number))
            copies += 1
            if rng.random() < 0.7:
                deeds.append(("carry", number))
        elif chance < 0.6:
            deeds.append(("carry", number))
    deeds.append(("carry_old", world.house.age + late))
    return deeds


def mixed():
    """A house with all kinds, of which link b and the flows s and q are strange, and link c is shaky."""
    return House(
        2, Link("a", (4, 1)), Link("b", (6, 1), low=(5, 1), strange=True), Link("c", (6, 1), low=(5, 2)),
        flow("f", "a", "b"), flow("g", "a", kind="eager", least=ONE, cap=(3, 1)), flow("p", "c", kind="probe", size=2),
        flow("q", "c", kind="probe", size=2, strange=True), flow("s", "b", "a", strange=True),
        flow("w", "c", kind="window", size=ONE),
    )


def started():
    """A world of the mixed house with some letters, words and waters."""
    world = World(mixed())
    world.say(("level", "b", "a", ""), ONE)
    world.send("s", 0, ONE)
    world.run(3)
    world.tick()
    return world


def told_of(world):
    """All that can be asked of a world."""
    house = world.house
    found = [world.now, world.calm_since, world.letters(), world.book(), world.deeds(), world.present(), repr(world)]
    found.extend([world.held_note(channel) for channel in channels(house)])
    for part in house.flows():
        found.extend([world.on_wires(part.name), world.delivered(part.name, 0, world.now)])
        found.extend([world.held_now(part.name, hop) for hop in range(1, part.last + 1)])
        if part.kind == "probe" and not part.strange:
            found.extend([world.rate(part.name), world.asked(part.name)])
        for tick in range(world.now):
            found.append(world.delivered_at(part.name, tick))
            found.extend([world.sent_at(part.name, hop, tick) for hop in range(part.last + 1)])
            for hop, link in enumerate(part.route, 1):
                found.extend([world.held_at(part.name, hop, tick), world.spilled_at(part.name, hop, tick)])
                if not house.link_of(link).strange:
                    found.extend([world.allotment_at(part.name, link, tick), world.level_at(link, tick)])
    return found


def turn_deeds(house, turn, low_first):
    """The deeds of one turn, straight from the document."""
    low = (turn % 2 == 0) == low_first
    strange = {part.name: part for part in house.links() + house.flows() if part.strange}
    deeds = []
    for link in house.links():
        if link.low != link.capacity:
            deeds.append(("capacity", link.name, link.low if low else link.capacity))
    for channel in channels(house):
        if channel[0] == "level" and channel[1] in strange:
            deeds.append(("say", channel, ZERO if low else TOP))
        elif channel[0] == "manner" and channel[1] in strange:
            part = strange[channel[1]]
            deeds.append(("say", channel, () if low else (part.least, part.cap)))
    return deeds + [("carry_old", house.age), ("tick",)] * house.age


def first_deed(house, from_top):
    held = []
    for channel in channels(house):
        if channel[0] == "level":
            held.append((channel, -1, TOP if from_top else ZERO))
        elif channel[0] == "manner":
            part = house.flow_of(channel[1])
            held.append((channel, -1, (part.least, part.cap) if from_top else ()))
    return ("stir", tuple(held), (), (), (), (), ())


def stepped_swing(house, turns, from_top=True):
    """A swing, deed by deed."""
    world = World(house)
    world.do(first_deed(house, from_top))
    for turn in range(turns):
        for deed in turn_deeds(house, turn, from_top):
            world.do(deed)
    return world
