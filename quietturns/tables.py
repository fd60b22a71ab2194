"""Tables: how long and how many the shortest ways are, and over which routers they begin."""

from quietturns.nets import need_routers


def distance(net, a, d):
    """The length of a shortest way from a to d; 0 if they are the same, None if there is no way."""
    need_routers(net, a, d)
    return distances_to(net, d).get(a)


def ways(net, a, d):
    """How many shortest ways there are from a to d; 1 if they are the same."""
    need_routers(net, a, d)
    if a == d:
        return 1
    return sum([ways(net, n, d) for n in nexts(net, a, d)])


def nexts(net, a, d):
    """The next routers: all n such that the link from a to n begins a shortest way from a to d."""
    need_routers(net, a, d)
    found = distances_to(net, d)
    return tuple([n for n in net.routers if begins(net, found, a, n)])


def alike(old, new):
    """None if all next routers are the same, otherwise the least pair (router, destination) of others.

    If the routers themselves are not the same, it is ().
    """
    if old.routers != new.routers:
        return ()
    for router in old.routers:
        for d in old.routers:
            if nexts(old, router, d) != nexts(new, router, d):
                return (router, d)
    return None


def distances_to(net, d):
    """A dict: for each router that has a way to d, the length of a shortest one, for d itself 0."""
    found = {d: 0}
    # A shortest way has fewer links than there are routers, and each turn is right for one link more.
    for _ in net.routers:
        for a, b, there, back in net.links:
            shorten(found, a, b, there)
            shorten(found, b, a, back)
    return found


def shorten(found, a, n, length):
    """Lowers the distance of a in found, if the way on over n is a shorter one."""
    if n in found and (a not in found or found[n] + length < found[a]):
        found[a] = found[n] + length


def begins(net, found, a, n):
    """Whether the link from a to n begins a shortest way to where the distances in found lead."""
    length = net.length(a, n)
    if length is None or n not in found:
        return False
    # Links go both ways, so a has a distance where n has one.
    return found[a] == length + found[n]
