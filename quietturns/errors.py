"""All errors of the package, also those that only later modules raise."""


class NetError(ValueError):
    """What all errors of the package derive from."""


class BadNet(NetError):
    """The routers and links are no net, or the argument is not one."""

    def __init__(self, value):
        self.value = value


class NoRouter(NetError):
    """The value is not a router of the net."""

    def __init__(self, value):
        self.value = value


class BadLink(NetError):
    """The pair of routers is not in order."""

    def __init__(self, value):
        self.value = value


class BadLength(NetError):
    """The value is not a length."""

    def __init__(self, value):
        self.value = value


class TooMany(NetError):
    """The net would have more links than it can have."""


class NoLink(NetError):
    """The net has no link for the pair."""

    def __init__(self, value):
        self.value = value


class Unlike(NetError):
    """The two nets do not have the same routers."""


class BadShift(NetError):
    """The value cannot be added to the lengths."""

    def __init__(self, value):
        self.value = value


class BadDemands(NetError):
    """The value is no tuple of demands."""

    def __init__(self, value):
        self.value = value


class BadMoment(NetError):
    """The value is no moment."""

    def __init__(self, value):
        self.value = value


class Turning(NetError):
    """A packet for the destination can turn."""

    def __init__(self, destination):
        self.destination = destination


class BadRates(NetError):
    """The value is no tuple of rates."""

    def __init__(self, value):
        self.value = value


class BadCaps(NetError):
    """The value is no tuple of caps."""

    def __init__(self, value):
        self.value = value


class BadOffers(NetError):
    """The value is no tuple of offers."""

    def __init__(self, value):
        self.value = value


class NoEnd(NetError):
    """The value names no end, destination and neighbour of a fallen link."""

    def __init__(self, value):
        self.value = value


class BadRows(NetError):
    """The value is no tuple of rows."""

    def __init__(self, value):
        self.value = value


class BadEvent(NetError):
    """The value has none of the forms of an event."""

    def __init__(self, value):
        self.value = value


class NotNow(NetError):
    """The event cannot happen now."""

    def __init__(self, event):
        self.event = event


class Turned(NetError):
    """By this hop the packet would turn."""

    def __init__(self, packet, router):
        self.packet = packet
        self.router = router


class Ring(NetError):
    """The routers round which a packet would have gone."""

    def __init__(self, ring):
        self.ring = ring


class NoPacket(NetError):
    """The value is not the number of a packet."""

    def __init__(self, value):
        self.value = value


class NothingToUndo(NetError):
    """No event has been done that could be taken back."""


class BadText(NetError):
    """The text has a row that cannot stand there, or is none."""

    def __init__(self, value):
        self.value = value


class BadRun(NetError):
    """The value is no tuple of events."""

    def __init__(self, value):
        self.value = value


class BadLine(NetError):
    """The value is no line that a desk answers."""

    def __init__(self, value):
        self.value = value
