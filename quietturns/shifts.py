"""Shifts: one link's lengths made greater or less, and which links begin shortest ways then."""

from quietturns.errors import BadShift
from quietturns.nets import need_router
from quietturns.rings import is_row, links_round
from quietturns.tables import distance, next_table, next_tables
from quietturns.values import is_integer_from


def shifted(net, a, b, t):
    """The net in which both lengths of the link of a and b are greater by t, for None the net without it."""
    rest = net.without(a, b)
    if t is None:
        return rest
    if not is_integer_from(t, least_shift(net, a, b)):
        raise BadShift(t)
    return net.with_link(a, b, net.length(a, b) + t, net.length(b, a) + t)


def least_shift(net, a, b):
    """The least shift that leaves both lengths of the link at least 1."""
    return 1 - min(net.length(a, b), net.length(b, a))


def point(net, a, b, router, d):
    """The shift below which all shortest ways from router to d go over the link, and above which none does.

    None if router is d, or if there are no ways with the link or none without it.
    """
    straight = distance(net.without(a, b), router, d)
    over = detour(net, a, b, router, d)
    if router == d or straight is None or over is None:
        return None
    return straight - over


def detour(net, a, b, router, d):
    """The length of a shortest way from router to d over the link of a and b, None if there is none."""
    rest = net.without(a, b)
    sums = [sum_of(distance(rest, router, a), net.length(a, b), distance(rest, b, d)),
            sum_of(distance(rest, router, b), net.length(b, a), distance(rest, a, d))]
    return min([each for each in sums if each is not None], default=None)


def sum_of(before, length, after):
    """The sum of these three, None if there is no way before or behind the link."""
    if before is None or after is None:
        return None
    return before + length + after


def points(net, a, b):
    """The ascending tuple of all integers that are the point of some router and destination."""
    found = [point(net, a, b, router, d) for router in net.routers for d in net.routers]
    return tuple(sorted(set([t for t in found if t is not None])))


def stretch(net, a, b, d, ring):
    """The pair of the shifts such that a step over both turns by this ring for d, None if it is no ring."""
    late = next_table_without(net, a, b, d)
    if not is_row(ring, net.routers) or d in ring:
        return None
    # A link that stands at some shift stands at the least one or, however great the shifts are, without the link.
    early = next_table(shifted(net, a, b, least_shift(net, a, b)), d)
    links = links_round(ring)
    if not all([is_ring_link(a, b, router, n, early, late) for router, n in links]):
        return None
    # From router to router of a ring the points rise along the links of lows, fall along those of highs and stay
    # the same along all others, which alone are no ring: so there are both kinds, and no point is None.
    lows = [point(net, a, b, router, d) for router, n in links if n not in late[router]]
    highs = [point(net, a, b, router, d) for router, n in links if n not in early[router]]
    return (min(lows), max(highs))


def next_table_without(net, a, b, d):
    """The next routers for d without the link of a and b."""
    rest = net.without(a, b)
    need_router(net, d)
    return next_table(rest, d)


def is_ring_link(a, b, router, n, early, late):
    """Whether a ring can go from router to n: at some shift, and not over the link of a and b."""
    if router in (a, b) and n in (a, b):
        return False
    return n in early[router] or n in late[router]


def free_range(net, a, b):
    """The pair of the least and the greatest shift up to which all tables are the net's own."""
    # Tables can change only from a point to a shift beside it, or from there to the point.
    near = sorted(set([t + by for t in points(net, a, b) for by in (-1, 0, 1)]))
    least, own = least_shift(net, a, b), next_tables(net)
    others = [t for t in near if t >= least and next_tables(shifted(net, a, b, t)) != own]
    below, above = [t for t in others if t < 0], [t for t in others if t > 0]
    return (max(below, default=least - 1) + 1, min(above) - 1 if above else None)
