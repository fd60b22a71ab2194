"""Tables: how long and how many the shortest ways are, and over which routers they begin."""

from quietturns.nets import need_routers


def distance(net, a, d):
    """The length of a shortest way from a to d; 0 if they are the same, None if there is no way."""
    need_routers(net, a, d)
    return distances_to(net, d).get(a)


def ways(net, a, d):
    """How many shortest ways there are from a to d; 1 if they are the same."""
    need_routers(net, a, d)
    if a == d:
        return 1
    return sum([ways(net, n, d) for n in nexts(net, a, d)])


def nexts(net, a, d):
    """The next routers: all n such that the link from a to n begins a shortest way from a to d."""
    need_routers(net, a, d)
    return next_table(net, d)[a]


def alike(old, new):
    """None if all next routers are the same, otherwise the least pair (router, destination) of others.

    If the routers themselves are not the same, it is ().
    """
    if old.routers != new.routers:
        return ()
    olds, news = next_tables(old), next_tables(new)
    for router in old.routers:
        for d in old.routers:
            if olds[d][router] != news[d][router]:
                return (router, d)
    return None


def next_tables(net):
    """A dict: for each destination, in order, its table."""
    return {d: next_table(net, d) for d in net.routers}


def next_table(net, d):
    """A dict: for each router, in order, its next routers for d."""
    found = distances_to(net, d)
    rows = {router: [] for router in net.routers}
    for a, b, there, back in net.links:
        if begins(found, a, b, there):
            rows[a].append(b)
        if begins(found, b, a, back):
            rows[b].append(a)
    return {router: tuple(sorted(rows[router])) for router in rows}


def distances_to(net, d):
    """A dict: for each router that has a way to d, the length of a shortest one, for d itself 0."""
    found, before = {d: 0}, {}
    # Each turn is right for ways of one link more, so when it changes nothing, all of them are.
    while found != before:
        before = dict(found)
        for a, b, there, back in net.links:
            shorten(found, a, b, there)
            shorten(found, b, a, back)
    return found


def shorten(found, a, n, length):
    """Lowers the distance of a in found, if the way on over n is a shorter one."""
    if n in found and (a not in found or found[n] + length < found[a]):
        found[a] = found[n] + length


def begins(found, a, n, length):
    """Whether the link from a to n, of this length, begins a shortest way to where the distances in found lead."""
    # Links go both ways, so a has a distance where n has one.
    return n in found and found[a] == length + found[n]
