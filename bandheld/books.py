"""Books: the story of the levels of a run, told by others, and judged row by row."""

from bandheld.amounts import compare, is_amount
from bandheld.basics import is_number, is_number_within
from bandheld.channels import is_value
from bandheld.hearing import cut_value, wishes_at
from bandheld.levels import level_of
from bandheld.nets import Net


def fault_of(house, book):
    """The first fault of any value as a book, as the pair (row, word), or None."""
    if not isinstance(book, (list, tuple)):
        return (-1, "book")
    net = Net(house)
    for at, row in enumerate(book):
        word = _fault_of_row(net, book, at, row)
        if word is not None:
            return (at, word)
    if len(book) > 0 and len(book) % len(net.true_links) != 0:
        return (len(book), "short")
    return None


def levels_of(book):
    """The dicts from the true links to their levels, one for each tick of a book without a fault."""
    found = []
    for tick, link, _, _, level in book:
        if tick == len(found):
            found.append({})
        found[tick][link] = level
    return found


def _fault_of_row(net, book, at, row):
    """The first fault of a row, or None; the rows ahead of it have none."""
    if not _is_row(net, row):
        return "row"
    tick, link, capacity, heard, level = row
    if at != tick * len(net.true_links) + net.true_links.index(link):
        return "order"
    part = net.link_table[link]
    if compare(capacity, part.low) < 0 or compare(capacity, part.capacity) > 0:
        return "capacity"
    if not _are_entries(net, tick, link, heard):
        return "entry"
    told = {channel: value for channel, made, value in heard}
    if any([net.known[channel] and channel not in told for channel in net.heard_by[link]]):
        return "silent"
    if not all([_was_told(net, book, entry) for entry in heard]):
        return "told"
    values = {channel: cut_value(net, channel, value) for channel, value in told.items()}
    if level != level_of(capacity, wishes_at(net, link, values)):
        return "level"
    return None


def _is_row(net, value):
    """Whether any value is a row, by the kinds of its parts alone."""
    if not isinstance(value, tuple) or len(value) != 5:
        return False
    tick, link, capacity, heard, level = value
    if not is_number(tick) or tick < 0 or link not in net.true_links:
        return False
    return is_amount(capacity) and isinstance(heard, (list, tuple)) and is_amount(level)


def _are_entries(net, tick, link, heard):
    """Whether some values are entries of a link at a tick, with channels that ascend."""
    earlier = ()
    for entry in heard:
        if not _is_entry(net, tick, link, entry) or not earlier < entry[0]:
            return False
        earlier = entry[0]
    return True


def _is_entry(net, tick, link, value):
    """Whether any value is an entry of a link at a tick."""
    if not isinstance(value, tuple) or len(value) != 3:
        return False
    channel, made, told = value
    if channel not in net.heard_by[link]:
        return False
    return is_number_within(made, tick - net.age, tick - 1) and is_value(channel, told)


def _was_told(net, book, entry):
    """Whether an entry of a true channel has the value that was told then."""
    channel, made, value = entry
    if not net.known[channel] or made < 0:
        return True
    kind, teller, _, name = channel
    if kind == "manner":
        return value == net.flow_table[name].manner
    return value == book[made * len(net.true_links) + net.true_links.index(teller)][4]
