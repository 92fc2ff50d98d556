"""Texts of houses: writing them and reading them back."""

from bandheld.amounts import amount_text, read_amount
from bandheld.basics import is_name, number_text, read_number
from bandheld.errors import BadFlow, BadLink, BadText
from bandheld.flows import KINDS, Flow
from bandheld.houses import House
from bandheld.links import DISCIPLINES, Link

NUMBER_DIGITS = 9


def house_text(house):
    """The text of a house."""
    lines = [f"house {house.age}"]
    for link in house.links():
        lines.append(_link_line(link))
    for flow in house.flows():
        lines.extend(_flow_lines(flow))
    lines.append("end")
    return "".join([f"{line}\n" for line in lines])


def _link_line(link):
    low = amount_text(link.low)
    capacity = amount_text(link.capacity)
    return f"link {link.name} {low} {capacity} {link.way} {link.discipline} {_mark_text(link)}"


def _flow_lines(flow):
    amounts = " ".join([amount_text(value) for value in (flow.least, flow.cap, flow.door)])
    head = f"flow {flow.name} {flow.kind} {_size_text(flow)} {flow.weight}"
    lines = [f"{head} {amounts} {flow.way} {_mark_text(flow)}"]
    if flow.is_gone():
        lines.append("gone")
    else:
        lines.append(f"wish {amount_text(flow.manner[0])} {amount_text(flow.manner[1])}")
    for link, size in zip(flow.route, flow.buffers):
        lines.append(f"over {link} {amount_text(size)}")
    return lines


def _mark_text(part):
    if part.strange:
        return "strange"
    return "true"


def _size_text(flow):
    if flow.kind == "window":
        return amount_text(flow.size)
    if flow.kind == "probe":
        return number_text(flow.size)
    return "-"


def read_house(text):
    """The house with a text."""
    if not isinstance(text, str):
        raise BadText(0, "form")
    lines = Lines(text)
    age = _read_age(lines)
    parts = []
    while lines.words()[0] == "link":
        parts.append(_read_link(lines))
    while lines.words()[0] == "flow":
        parts.append(_read_flow(lines))
    if lines.words() != ["end"]:
        raise BadText(lines.at, lines.fault())
    lines.step()
    if not lines.is_over():
        raise BadText(lines.at, "form")
    return House(age, *parts)


class Lines:
    """The lines of a text, which are read one after the other; at is the index of the present one."""

    def __init__(self, text):
        pieces = text.split("\n")
        self._lines = pieces[:-1]
        self._rest = pieces[-1]
        self.at = 0

    def words(self):
        """The words of the present line: one empty word if there is none, or no line feed."""
        if self.at == len(self._lines):
            return [""]
        return self._lines[self.at].split(" ")

    def step(self):
        """Goes on to the next line."""
        self.at += 1

    def is_over(self):
        """Whether nothing is left of the text."""
        return self.at == len(self._lines) and self._rest == ""

    def fault(self):
        """The word for a present line that may not stand here."""
        if self.is_over():
            return "missing"
        return "form"


def _read_age(lines):
    words = lines.words()
    age = None
    if len(words) == 2 and words[0] == "house":
        age = _number(words[1])
    if age is None:
        raise BadText(lines.at, lines.fault())
    lines.step()
    return age


def _read_link(lines):
    fields = _link_fields(lines.words())
    if fields is None:
        raise BadText(lines.at, "form")
    name, low, capacity, way, discipline, strange = fields
    try:
        link = Link(name, capacity, low=low, way=way, discipline=discipline, strange=strange)
    except BadLink as refused:
        raise BadText(lines.at, refused.what) from None
    lines.step()
    return link


def _link_fields(words):
    """What a right link line tells, or None."""
    if len(words) != 7:
        return None
    _, name, low, capacity, way, discipline, mark = words
    fields = (
        _name(name),
        read_amount(low),
        read_amount(capacity),
        _number(way),
        _one_of(discipline, DISCIPLINES),
        _mark(mark),
    )
    if None in fields:
        return None
    return fields


def _read_flow(lines):
    start = lines.at
    fields = _flow_fields(lines.words())
    if fields is None:
        raise BadText(start, "form")
    lines.step()
    manner = _read_wish(lines)
    route, buffers = _read_route(lines)
    name, kind, size, weight, least, cap, door, way, strange = fields
    try:
        return Flow(name, route, buffers, kind=kind, size=size[0], weight=weight, least=least,
                    cap=cap, door=door, way=way, manner=manner, strange=strange)
    except BadFlow as refused:
        raise BadText(start, refused.what) from None


def _flow_fields(words):
    """What a right flow line tells, or None; the size is within a tuple."""
    if len(words) != 10:
        return None
    _, name, kind, size, weight, least, cap, door, way, mark = words
    fields = (
        _name(name),
        _one_of(kind, KINDS),
        _size(kind, size),
        _number(weight),
        read_amount(least),
        read_amount(cap),
        read_amount(door),
        _number(way),
        _mark(mark),
    )
    if None in fields:
        return None
    return fields


def _read_wish(lines):
    words = lines.words()
    manner = None
    if words == ["gone"]:
        manner = ()
    if len(words) == 3 and words[0] == "wish":
        manner = (read_amount(words[1]), read_amount(words[2]))
    if manner is None or None in manner:
        raise BadText(lines.at, lines.fault())
    lines.step()
    return manner


def _read_route(lines):
    """The links and the buffers of one or more right lines over."""
    route = []
    buffers = []
    fields = _over_fields(lines.words())
    if fields is None:
        raise BadText(lines.at, lines.fault())
    while fields is not None:
        route.append(fields[0])
        buffers.append(fields[1])
        lines.step()
        fields = _over_fields(lines.words())
    return route, buffers


def _over_fields(words):
    """What a right line over tells, or None."""
    if len(words) != 3 or words[0] != "over":
        return None
    fields = (_name(words[1]), read_amount(words[2]))
    if None in fields:
        return None
    return fields


def _name(word):
    if is_name(word):
        return word
    return None


def _number(word):
    return read_number(word, NUMBER_DIGITS)


def _one_of(word, choices):
    if word in choices:
        return word
    return None


def _mark(word):
    """Whether a mark tells of somebody strange, or None."""
    if word == "strange":
        return True
    if word == "true":
        return False
    return None


def _size(kind, word):
    """The size that a word tells for a kind, within a tuple, or None."""
    if kind == "window":
        size = read_amount(word)
    elif kind == "probe":
        size = _number(word)
    else:
        return (None,) if word == "-" else None
    return None if size is None else (size,)
