"""Yards: changes, learning and packets, played event by event."""

from quietturns.errors import BadEvent, BadNet, NoPacket, NotNow, NothingToUndo, Ring, Turned
from quietturns.events import is_event, routers_in
from quietturns.nets import Net, need_router
from quietturns.states import can_happen, events_now, first_state, happen, is_under_way, newest, take_back, under_way
from quietturns.texts import show_net, show_run
from quietturns.values import is_integer_from


class Yard:
    """Plays runs; in a strict one no packet turns."""

    def __init__(self, net, *, strict=False):
        if not isinstance(net, Net):
            raise BadNet(net)
        self._strict = strict is True
        self._first = net
        self._state = first_state(net)

    @property
    def now(self):
        """The ascending tuple of all learn, send, hop and drop events that can happen now."""
        return events_now(self._state)

    @property
    def events(self):
        """The run so far."""
        return tuple(self._state.run)

    @property
    def net(self):
        """The newest net."""
        return self._state.nets[-1]

    @property
    def many(self):
        """How many packets there are."""
        return len(self._state.routes)

    @property
    def turned(self):
        """The ascending tuple of all (packet, router) such that the packet came back to the router."""
        found = [(packet, router) for packet, route in enumerate(self._state.routes)
                 for at, router in enumerate(route) if router in route[:at]]
        return tuple(sorted(set(found)))

    @property
    def lost(self):
        """The ascending tuple of the numbers of all packets that are lost."""
        return tuple(sorted(self._state.gone))

    @property
    def arrived(self):
        """The ascending tuple of the numbers of all packets that are where they were sent."""
        goals = self._state.goals
        return tuple([packet for packet, route in enumerate(self._state.routes) if route[-1] == goals[packet]])

    @property
    def journal(self):
        """The text of the net at the beginning, of the row run or strict, and of the events."""
        rows = [show_net(self._first), "strict" if self._strict else "run"]
        return "\n".join(rows + [show_run((event,)) for event in self._state.run])

    def __eq__(self, other):
        return isinstance(other, Yard) and self._first == other._first and self.events == other.events

    def __contains__(self, x):
        return self._is_packet(x) and is_under_way(self._state, x)

    def __getitem__(self, at):
        self._need_packet(at)
        return tuple(self._state.routes[at])

    def __setitem__(self, at, worth):
        self._need_packet(at)
        self.do(("hop", at, worth))

    # Without it Python would ask for packet after packet.
    def __iter__(self):
        raise TypeError("the packets of a yard are asked for by their numbers")

    def __call__(self, router, d):
        return self.do(("send", router, d))

    def do(self, event):
        """Does an event; returns the number of the packet that it sends, otherwise None."""
        routers = self._first.routers
        if not is_event(event) or not all([router in routers for router in routers_in(event)]):
            raise BadEvent(event)
        if not can_happen(self._state, event):
            raise NotNow(event)
        if self._strict and event[0] == "hop":
            self._need_new_router(event[1], event[2])
        return happen(self._state, event)

    def known(self, router):
        """The net that a router knows."""
        need_router(self._first, router)
        return self._state.nets[self._state.knows[router]]

    def oldest(self):
        """The oldest net that a router knows."""
        return self._state.nets[min(self._state.knows.values())]

    def told(self):
        """Whether all routers know the newest net and no packet is under way."""
        return min(self._state.knows.values()) == newest(self._state) and not under_way(self._state)

    def back(self):
        """Takes the last event back."""
        if not self._state.run:
            raise NothingToUndo()
        take_back(self._state)

    def copy(self):
        """An independent yard, alike in everything."""
        made = Yard(self._first, strict=self._strict)
        made._state = self._state.twin()
        return made

    def trial(self, *, keep=False):
        """A context manager: after its block the yard is as before, unless keep is True and no error left it."""
        return Trial(self, keep is True)

    def tried(self, look, *, keep=False):
        """What look returns for the yard in a trial."""
        with self.trial(keep=keep) as yard:
            return look(yard)

    def _is_packet(self, value):
        return is_integer_from(value, 0) and value < len(self._state.routes)

    def _need_packet(self, value):
        if not self._is_packet(value):
            raise NoPacket(value)

    def _need_new_router(self, packet, router):
        route = self._state.routes[packet]
        if router in route:
            raise Turned(packet, router) from Ring(tuple(route[route.index(router):]))


class Trial:
    """Gives a yard, and brings it back to where it was."""

    def __init__(self, yard, keep):
        self._yard = yard
        # True or None, since what is run as a block is left may only ask for None (LANGUAGE.md, L6).
        self._kept = True if keep else None
        self._mark = None

    def __enter__(self):
        self._mark = Mark(self._yard._state.twin(), self._mark)
        return self._yard

    def __exit__(self, kind, value, trace):
        if kind is not None or self._kept is None:
            self._yard._state = self._mark.state
        self._mark = self._mark.below


class Mark:
    """A state to come back to; below it that of the block around, for a trial that is entered within itself."""

    def __init__(self, state, below):
        self.state = state
        self.below = below
