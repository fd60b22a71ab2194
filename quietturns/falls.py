"""Falls: what the fall of a link without notice can do, and to whom its ends may send instead."""

from quietturns.errors import NoEnd
from quietturns.judging import joined
from quietturns.rings import ring_of, row_between
from quietturns.tables import next_tables


def falls(net):
    """The ascending tuple of (a, b, word) for all links; the word is "turns", "parts" or "quiet"."""
    return tuple([(a, b, word_of(net, a, b)) for a, b, there, back in net.links])


def losers(net, a, b):
    """The ascending tuple of all (router, destination) from which a packet can be lost on the fallen link."""
    olds, news = next_tables(net), next_tables(net.without(a, b))
    found = []
    for end, other in ((a, b), (b, a)):
        for d in olds:
            # Where d is the end itself it has no next router.
            if other in olds[d][end]:
                onward = joined_without(olds[d], news[d], a, b)
                found = found + [(router, d) for router in olds if comes_to(onward, router, end)]
    return tuple(sorted(set(found)))


def alternates(net, a, b):
    """The ascending tuple of (end, d, neighbours): to whom an end may send for d instead of to the other end."""
    rest, olds, found = net.without(a, b), next_tables(net), []
    for end, other in ((a, b), (b, a)):
        for d in olds:
            if olds[d][end] == (other,):
                found.append((end, d, tuple([n for n in neighbours_of(rest, end) if not comes_to(olds[d], n, end)])))
    return tuple(found)


def way_back(net, a, b, end, d, neighbour):
    """None if the end may send to this neighbour, otherwise any row of the fewest routers from it to the end."""
    rest, chosen = net.without(a, b), [row[:2] for row in alternates(net, a, b)]
    if (end, d) not in chosen or neighbour not in neighbours_of(rest, end):
        raise NoEnd((end, d, neighbour))
    return row_between(next_tables(net)[d], neighbour, end)


def word_of(net, a, b):
    """What the fall of a link can do."""
    olds, news = next_tables(net), next_tables(net.without(a, b))
    if any([ring_of(joined_without(olds[d], news[d], a, b)) is not None for d in olds]):
        return "turns"
    # There is a way where there is a next router.
    parted = [router for d in olds for router in olds if olds[d][router] and not news[d][router]]
    return "parts" if parted else "quiet"


def joined_without(before, after, a, b):
    """The routers to which each router may send on for one destination, but for the ways over a link."""
    onward = joined(before, after)
    return {router: [n for n in onward[router] if (router, n) not in ((a, b), (b, a))] for router in onward}


def neighbours_of(net, router):
    """The ascending list of the routers to which a router has a link."""
    return [n for n in net.routers if net.length(router, n) is not None]


def comes_to(onward, start, end):
    """Whether a packet can come from one router to the other one."""
    return row_between(onward, start, end) is not None
