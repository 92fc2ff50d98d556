"""The errors of the package, in three families."""


class BandError(ValueError):
    """A value, a part or a state that cannot be used."""


class Missing(LookupError):
    """Something was asked for that is not there."""


class Refused(RuntimeError):
    """Something that cannot be done here or now."""


class BadAmount(BandError):
    """No amount, or none that may stand here."""

    def __init__(self, value):
        self.value = value


class BadLink(BandError):
    """A link with a wrong parameter."""

    def __init__(self, what):
        self.what = what


class BadFlow(BandError):
    """A flow with a wrong parameter."""

    def __init__(self, what):
        self.what = what


class BadAge(BandError):
    """No age of a house."""

    def __init__(self, age):
        self.age = age


class BadPart(BandError):
    """A part of a house that is neither a link nor a flow."""

    def __init__(self, at):
        self.at = at


class TooMany(BandError):
    """More links or flows than a house may have."""

    def __init__(self, what, count):
        self.what = what
        self.count = count


class DuplicateName(BandError):
    """A name that two parts of a house have."""

    def __init__(self, name):
        self.name = name


class Idle(BandError):
    """A link without flows."""

    def __init__(self, link):
        self.link = link


class Overpromised(BandError):
    """A link that cannot keep what is promised to its flows."""

    def __init__(self, link, over):
        self.link = link
        self.over = over


class Small(BandError):
    """A buffer that is smaller than the window of its flow."""

    def __init__(self, flow, link):
        self.flow = flow
        self.link = link


class BadText(BandError):
    """A text that is not that of a house."""

    def __init__(self, line, word):
        self.line = line
        self.word = word


class BadManner(BandError):
    """A manner that a flow cannot have."""

    def __init__(self, flow):
        self.flow = flow


class BadCapacity(BandError):
    """A capacity that a link cannot have."""

    def __init__(self, link):
        self.link = link


class BadSharing(BandError):
    """No sharing of a house."""

    def __init__(self, name):
        self.name = name


class BadBand(BandError):
    """No band of a house."""

    def __init__(self, link):
        self.link = link


class NotPlain(BandError):
    """A house that is not plain, where a plain one is asked for."""

    def __init__(self):
        """Takes nothing, for there is nothing to tell."""


class Future(BandError):
    """A note of a tick that has not been played."""

    def __init__(self, tick):
        self.tick = tick


class Short(BandError):
    """More is taken than there is."""

    def __init__(self, amount):
        self.amount = amount


class BadValue(BandError):
    """A value that cannot be told on a channel."""

    def __init__(self, channel):
        self.channel = channel


class BadState(BandError):
    """An entry of a stir that is not as told."""

    def __init__(self, what, at):
        self.what = what
        self.at = at


class BadCount(BandError):
    """No count, or none that may stand here."""

    def __init__(self, value):
        self.value = value


class BadDeed(BandError):
    """No deed, or no list of deeds."""

    def __init__(self, at):
        self.at = at


class UnknownName(Missing):
    """A name that nothing of this kind has."""

    def __init__(self, name):
        self.name = name


class UnknownChannel(Missing):
    """A channel that a house does not have."""

    def __init__(self, channel):
        self.channel = channel


class UnknownHop(Missing):
    """A hop that a flow does not have."""

    def __init__(self, hop):
        self.hop = hop


class NoSuchLetter(Missing):
    """A number that no letter has."""

    def __init__(self, number):
        self.number = number


class NoSuchTick(Missing):
    """A tick that was not played."""

    def __init__(self, tick):
        self.tick = tick


class Started(Refused):
    """A world that has played a tick already."""

    def __init__(self, tick):
        self.tick = tick


class NotStrange(Refused):
    """Somebody true, who cannot be told what to do."""

    def __init__(self, name):
        self.name = name


class NotShaky(Refused):
    """A link whose capacity never changes."""

    def __init__(self, link):
        self.link = link


class Unseen(Refused):
    """A flow without a true link on its route."""

    def __init__(self, flow):
        self.flow = flow
