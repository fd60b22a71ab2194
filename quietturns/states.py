"""States: what there is in a yard at one moment, and what events do to it."""

from quietturns.tables import next_tables


class State:
    """The nets in a row, which of them each router knows, the packets, and the run so far."""

    def __init__(self, nets, tables, knows, goals, routes, gone, run):
        self.nets = nets
        # Those of each net, so that nobody who only asks has to find them.
        self.tables = tables
        # The index of a net for each router.
        self.knows = knows
        self.goals = goals
        self.routes = routes
        # A dict with the lost packets.
        self.gone = gone
        self.run = run

    def twin(self):
        """Another state that is alike."""
        return State(list(self.nets), list(self.tables), dict(self.knows), list(self.goals),
                     [list(route) for route in self.routes], dict(self.gone), list(self.run))


def first_state(net):
    """The state at the beginning."""
    return State([net], [next_tables(net)], {router: 0 for router in net.routers}, [], [], {}, [])


def newest(state):
    """The index of the newest net."""
    return len(state.nets) - 1


def nexts_known(state, router, d):
    """The next routers of a router, by the net that it knows."""
    return state.tables[state.knows[router]][d][router]


def nexts_of_packet(state, packet):
    """The routers to which a packet under way can go on."""
    return nexts_known(state, state.routes[packet][-1], state.goals[packet])


def is_under_way(state, packet):
    """Whether a packet is neither lost nor where it is sent."""
    return packet not in state.gone and state.routes[packet][-1] != state.goals[packet]


def under_way(state):
    """The list of the packets under way."""
    return [packet for packet in range(len(state.routes)) if is_under_way(state, packet)]


def can_happen(state, event):
    """Whether an event of this yard's routers can happen now."""
    word = event[0]
    if word == "set":
        return state.nets[0].length(event[1], event[2]) is not None
    if word == "out":
        return state.nets[-1].length(event[1], event[2]) is not None
    if word == "learn":
        return state.knows[event[1]] < newest(state)
    if word == "send":
        return nexts_known(state, event[1], event[2]) != ()
    if event[1] >= len(state.routes) or not is_under_way(state, event[1]):
        return False
    following = nexts_of_packet(state, event[1])
    return event[2] in following if word == "hop" else following == ()


def events_now(state):
    """The ascending tuple of all learn, send, hop and drop events that can happen now."""
    routers = list(state.knows)
    found = [("learn", router) for router in routers if state.knows[router] < newest(state)]
    found = found + [("send", router, d) for router in routers for d in routers if nexts_known(state, router, d)]
    for packet in under_way(state):
        following = nexts_of_packet(state, packet)
        found = found + [("hop", packet, n) for n in following]
        if not following:
            found = found + [("drop", packet)]
    return tuple(sorted(found))


def happen(state, event):
    """Does an event that can happen; returns the number of a packet that is sent, otherwise None."""
    state.run.append(event)
    word = event[0]
    if word == "set":
        add_net(state, state.nets[-1].with_link(event[1], event[2], event[3], event[4]))
    elif word == "out":
        add_net(state, state.nets[-1].without(event[1], event[2]))
    elif word == "learn":
        state.knows[event[1]] += 1
    elif word == "send":
        state.routes.append([event[1]])
        state.goals.append(event[2])
        return len(state.routes) - 1
    elif word == "hop":
        state.routes[event[1]].append(event[2])
    else:
        state.gone[event[1]] = True
    return None


def add_net(state, net):
    """Puts a net behind the newest one."""
    state.nets.append(net)
    state.tables.append(next_tables(net))


def take_back(state):
    """Takes back the last event of a run that is not empty."""
    event = state.run.pop()
    word = event[0]
    if word in ("set", "out"):
        state.nets.pop()
        state.tables.pop()
    elif word == "learn":
        state.knows[event[1]] -= 1
    elif word == "send":
        state.routes.pop()
        state.goals.pop()
    elif word == "hop":
        state.routes[event[1]].pop()
    else:
        del state.gone[event[1]]
