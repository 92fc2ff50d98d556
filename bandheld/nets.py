"""Nets: what the worlds and the books of a house look up again and again."""

from bandheld.channels import channels, is_true


class Net:
    """The parts, channels and ways of a house, which never change."""

    def __init__(self, house):
        self.base = house
        self.age = house.age
        self.link_table = {link.name: link for link in house.links()}
        self.flow_table = {flow.name: flow for flow in house.flows()}
        self.crowds = {
            link: [self.flow_table[flow] for flow in house.on(link)] for link in self.link_table
        }
        self.true_links = [link for link, part in self.link_table.items() if not part.strange]
        self.known = {channel: is_true(house, channel) for channel in channels(house)}
        self.heard_by = {link: _heard_by(link, self.known) for link in self.link_table}
        self.ways = {
            (flow.name, hop): house.way_of(flow.name, hop)
            for flow in house.flows()
            for hop in range(flow.last + 1)
        }

    def is_strange(self, name):
        """Whether the link or flow with a name is strange."""
        if name in self.link_table:
            return self.link_table[name].strange
        return self.flow_table[name].strange

    def has_channel(self, value):
        """Whether any value is a channel of the house."""
        # Only tuples of strings are looked up: others may hold lists.
        if not isinstance(value, tuple) or not all([isinstance(word, str) for word in value]):
            return False
        return value in self.known


def _heard_by(link, known):
    """The channels of the kinds level and manner that a link reads, ascending."""
    return [channel for channel in known if channel[2] == link and channel[0] in ("level", "manner")]
