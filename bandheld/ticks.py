"""Ticks: the four steps in which a world goes on."""

from bandheld.amounts import ZERO, compare, minus, plus, smallest
from bandheld.basics import is_number_within
from bandheld.disciplines import own_sends, rank_sends, spare_sends
from bandheld.hearing import cut_value, wishes_at
from bandheld.levels import allotments, level_of
from bandheld.trails import Page


def play_tick(net, stage):
    """Plays the coming tick."""
    page = Page()
    notes = _counting_notes(net, stage)
    heard = {channel: cut_value(net, channel, note[1]) for channel, note in notes.items()}
    prompt = _is_prompt(net, stage)
    _arrive(net, stage, page)
    for link in net.true_links:
        _measure(net, stage, page, link, notes, heard)
    page.sent = _sends(net, stage, page, notes, heard)
    _let_go(stage, page)
    _tell(net, stage, page, heard)
    page.left = {place: buffer.held for place, buffer in stage.buffers.items()}
    stage.trail.add(page)
    stage.coming += 1
    if not prompt:
        stage.calm = stage.coming


def _counting_notes(net, stage):
    """The dict from the channels that are not silent to the notes (tick, value) that count."""
    found = {}
    for channel in net.known:
        note = stage.ears[channel[2]].counting(channel, stage.coming)
        if note is not None:
            found[channel] = note
    return found


def _is_prompt(net, stage):
    """Whether a note that is young enough is held on each true channel."""
    # The kind came is no exception here, though its older notes count.
    now = stage.coming
    notes = [stage.ears[channel[2]].note(channel) for channel, true in net.known.items() if true]
    return all([is_number_within(note[0], now - net.age, now - 1) for note in notes])


def _arrive(net, stage, page):
    """Step 1: water comes to the ends of the flows and into the buffers."""
    for flow in net.flow_table.values():
        for hop in range(flow.last):
            water = stage.wires[(flow.name, hop)].arriving(stage.coming)
            place = (flow.name, hop + 1)
            page.spilled[place] = stage.buffers[place].take_in(water)
        water = stage.wires[(flow.name, flow.last)].arriving(stage.coming)
        page.come[flow.name] = water
        stage.come[flow.name] = plus(stage.come[flow.name], water)


def _measure(net, stage, page, link, notes, heard):
    """Step 2: a true link computes its level and its allotments."""
    capacity = stage.capacities[link]
    wishes = wishes_at(net, link, heard)
    level = level_of(capacity, wishes)
    page.capacity[link] = capacity
    page.noted[link] = [(channel,) + notes[channel] for channel in net.heard_by[link] if channel in notes]
    page.level[link] = level
    for flow, allotment in zip(net.crowds[link], allotments(level, wishes)):
        page.allotted[(flow.name, link)] = allotment


def _sends(net, stage, page, notes, heard):
    """Step 3: the dict from the hops (flow, number) to what each one sends."""
    sends = {}
    for flow in net.flow_table.values():
        sends[(flow.name, 0)] = _source_sends(net, stage, flow, notes, heard)
    for link, flows in net.crowds.items():
        places = [(flow.name, flow.route.index(link) + 1) for flow in flows]
        if net.is_strange(link):
            waters = [smallest(stage.orders.get(place, ZERO), stage.buffers[place].held) for place in places]
        else:
            limits = [_limit(stage, flow, place[1], notes, heard) for flow, place in zip(flows, places)]
            waters = _link_sends(net, page, link, limits)
        for place, water in zip(places, waters):
            sends[place] = water
    return sends


def _source_sends(net, stage, flow, notes, heard):
    """What the source of a flow sends."""
    if flow.strange:
        return smallest(flow.door, stage.orders.get((flow.name, 0), ZERO))
    sender = stage.senders[flow.name]
    offer = sender.offer(stage.coming, stage.manners[flow.name], heard)
    room = _room_ahead(stage, flow, 0, notes, heard)
    water = offer if room is None else smallest(offer, room)
    sender.note_sent(water)
    return water


def _limit(stage, flow, hop, notes, heard):
    """The most that a true link at a hop may send of a flow."""
    water = stage.buffers[(flow.name, hop)].held
    room = _room_ahead(stage, flow, hop, notes, heard)
    return water if room is None else smallest(water, room)


def _room_ahead(stage, flow, hop, notes, heard):
    """The room ahead of a hop, None if it has no such limit."""
    if flow.kind == "window" or hop == flow.last:
        return None
    reader = flow.name if hop == 0 else flow.route[hop - 1]
    channel = ("room", flow.route[hop], reader, flow.name)
    if channel not in heard:
        return ZERO
    return stage.hops[(flow.name, hop)].room(stage.coming, notes[channel][0], heard[channel])


def _link_sends(net, page, link, limits):
    """What a true link sends for its flows."""
    flows = net.crowds[link]
    discipline = net.link_table[link].discipline
    if discipline == "ranks":
        return rank_sends(page.capacity[link], limits)
    allotted = [page.allotted[(flow.name, link)] for flow in flows]
    if discipline == "own":
        return own_sends(allotted, limits)
    weights = [flow.weight for flow in flows]
    return spare_sends(page.capacity[link], weights, allotted, limits)


def _let_go(stage, page):
    """What is sent leaves the buffers, is on the wires, and is remembered."""
    for place, water in page.sent.items():
        if place[1] > 0:
            stage.buffers[place].give(water)
        if water != ZERO:
            stage.wires[place].put(stage.coming, water)
            stage.hops[place].remember(stage.coming, water)


def _tell(net, stage, page, heard):
    """Step 4: notes are made."""
    for channel in net.known:
        if net.is_strange(channel[1]):
            value = stage.words.get(channel)
        else:
            value = _true_value(net, stage, page, heard, channel)
        if value is not None:
            stage.bag.put(channel, stage.coming, value)


def _true_value(net, stage, page, heard, channel):
    """What a true teller tells on a channel."""
    kind, teller, _, name = channel
    if kind == "level":
        return page.level[teller]
    if kind == "manner":
        return stage.manners[name]
    if kind == "came":
        return stage.come[name]
    if kind == "ask":
        return stage.senders[name].asks(stage.manners[name])
    if kind == "bit":
        return _bit(page, heard, teller, name)
    hop = net.flow_table[name].route.index(teller) + 1
    buffer = stage.buffers[(name, hop)]
    return minus(buffer.size, buffer.held)


def _bit(page, heard, link, flow):
    """Whether what a flow asks is at most its allotment."""
    asked = heard.get(("ask", flow, link, flow))
    return asked is not None and compare(asked, page.allotted[(flow, link)]) <= 0
