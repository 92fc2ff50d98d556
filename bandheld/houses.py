"""Houses: an age, links, and the flows over them."""

from bandheld.amounts import compare, minus, plus
from bandheld.basics import is_number_within
from bandheld.errors import (
    BadAge,
    BadPart,
    DuplicateName,
    Idle,
    Overpromised,
    Small,
    TooMany,
    UnknownHop,
    UnknownName,
)
from bandheld.flows import Flow
from bandheld.links import Link
from bandheld.tables import entry_of

OLDEST = 12


class House:
    """A net of links with flows over them, which never changes."""

    LINKS = 8
    FLOWS = 10

    def __init__(self, age, *parts):
        if not is_number_within(age, 1, OLDEST):
            raise BadAge(age)
        _check_parts(parts)
        self.age = age
        self._links = _by_name([part for part in parts if isinstance(part, Link)])
        self._flows = _by_name([part for part in parts if isinstance(part, Flow)])
        _check_routes(self._links, self._flows)
        self._on = {link: _names_on(link, self._flows) for link in self._links}
        for link, names in self._on.items():
            if len(names) == 0:
                raise Idle(link)
        for link, names in self._on.items():
            _check_promises(self._links[link], [self._flows[name] for name in names])
        for flow in self._flows.values():
            _check_window(flow)

    def links(self):
        """The links, ascending by their names."""
        return list(self._links.values())

    def flows(self):
        """The flows, ascending by their names."""
        return list(self._flows.values())

    def link_of(self, name):
        """The link with a name."""
        return entry_of(self._links, name)

    def flow_of(self, name):
        """The flow with a name."""
        return entry_of(self._flows, name)

    def on(self, link):
        """The names of the flows on a link, ascending."""
        return list(self._on[self.link_of(link).name])

    def way_of(self, flow, hop):
        """The way of a hop of a flow."""
        found = self.flow_of(flow)
        if not is_number_within(hop, 0, found.last):
            raise UnknownHop(hop)
        if hop == 0:
            return found.way
        return self._links[found.route[hop - 1]].way

    def length(self, flow):
        """The sum of the ways of all hops of a flow."""
        found = self.flow_of(flow)
        return found.way + sum([self._links[link].way for link in found.route])

    def is_plain(self):
        """Whether nothing is strange or shaky."""
        steady = [not link.strange and not link.is_shaky() for link in self.links()]
        return all(steady) and all([not flow.strange for flow in self.flows()])

    def is_clear(self, flow):
        """Whether a flow is true, over true links without ranks alone."""
        found = self.flow_of(flow)
        route = [self._links[link] for link in found.route]
        clear = [not link.strange and link.discipline != "ranks" for link in route]
        return not found.strange and all(clear)

    def with_manner(self, flow, manner):
        """The house in which a flow has another manner."""
        return self.with_flow(self.flow_of(flow).with_manner(manner))

    def with_strange(self, *names):
        """The house in which these links and flows are strange as well."""
        for name in names:
            if name not in self:
                raise UnknownName(name)
        parts = [
            part.as_strange() if part.name in names else part
            for part in self.links() + self.flows()
        ]
        return House(self.age, *parts)

    def with_flow(self, flow):
        """The house with a flow in the place of the one with its name, or with one more."""
        if flow.name in self._flows:
            flows = [flow if old.name == flow.name else old for old in self.flows()]
        else:
            flows = self.flows() + [flow]
        parts = self.links() + flows
        return House(self.age, *parts)

    def __contains__(self, name):
        return isinstance(name, str) and (name in self._links or name in self._flows)

    def __eq__(self, other):
        return (
            isinstance(other, House)
            and self.age == other.age
            and self._links == other._links
            and self._flows == other._flows
        )

    def __len__(self):
        return len(self._flows)

    def __bool__(self):
        return True

    def __repr__(self):
        return f"House({len(self._links)} links, {len(self._flows)} flows)"


def true_flow_of(house, name):
    """The true flow of a house with a name."""
    found = house.flow_of(name)
    if found.strange:
        raise UnknownName(name)
    return found


def _check_parts(parts):
    """Refuses parts of another kind, too many of one kind, and names that stand twice."""
    for at, part in enumerate(parts):
        if not isinstance(part, (Link, Flow)):
            raise BadPart(at)
    links = len([part for part in parts if isinstance(part, Link)])
    if links > House.LINKS:
        raise TooMany("links", links)
    flows = len(parts) - links
    if flows > House.FLOWS:
        raise TooMany("flows", flows)
    names = [part.name for part in parts]
    for at, name in enumerate(names):
        if name in names[:at]:
            raise DuplicateName(name)


def _by_name(parts):
    """The dict from the names, ascending, to the parts."""
    table = {part.name: part for part in parts}
    return {name: table[name] for name in sorted(table)}


def _check_routes(links, flows):
    """Refuses routes over links that are not there."""
    for flow in flows.values():
        for link in flow.route:
            if link not in links:
                raise UnknownName(link)


def _names_on(link, flows):
    """The names of the flows on a link, ascending."""
    return [name for name, flow in flows.items() if link in flow.route]


def _check_promises(link, flows):
    """Refuses a link whose low capacity is less than what is promised to its flows."""
    leasts = [flow.least for flow in flows]
    promised = plus(*leasts)
    if compare(promised, link.low) > 0:
        raise Overpromised(link.name, minus(promised, link.low))


def _check_window(flow):
    """Refuses a window that is larger than a buffer on its route."""
    if flow.kind != "window":
        return
    for link, size in zip(flow.route, flow.buffers):
        if compare(size, flow.size) < 0:
            raise Small(flow.name, link)
