"""Loads: what demands bring onto the links, exactly, also while the routers learn.

Inside, a load is an integer, the number of parts of which WHOLE make an amount of 1.
"""

from math import gcd

from quietturns.errors import BadDemands, BadMoment, Turning
from quietturns.judging import turning
from quietturns.moments import at_moment, is_moment, moments_of, need_same_routers
from quietturns.rings import ranks_of, ring_of
from quietturns.tables import next_tables
from quietturns.values import is_integer_from, is_rising, is_tuple_of

MOST_DEMANDS = 12
# Among 8 routers an amount is parted at most 7 times on its way, each time among at most 7 routers: 420 is the
# least number that 1 to 7 divide, so nothing is ever left over.
WHOLE = 420 ** 7


def loads(net, demands):
    """The ascending tuple of (a, b, load) for all a and b with a load above 0 from a to b, a fraction."""
    need_demands(net, demands)
    return in_fractions(parts_of(next_tables(net), demands))


def moment_loads(old, new, moment, demands):
    """The loads at a moment of a change."""
    need_same_routers(old, new)
    if not is_moment(moment, old.routers):
        raise BadMoment(moment)
    need_demands(old, demands)
    tables = tables_at(next_tables(old), next_tables(new), moment)
    for d in tables:
        if ring_of(tables[d]) is not None:
            raise Turning(d)
    return in_fractions(parts_of(tables, demands))


def worst(old, new, demands):
    """The ascending tuple of (a, b, load, moment): the greatest load at any moment, and one at which it is reached."""
    need_same_routers(old, new)
    need_demands(old, demands)
    olds, news = next_tables(old), next_tables(new)
    found = turning(olds, news)
    if found is not None:
        raise Turning(found[1])
    most = {}
    for moment in moments_that_count(olds, news, demands):
        parts = parts_of(tables_at(olds, news, moment), demands)
        for link in parts:
            if parts[link] > most.get(link, (0,))[0]:
                most[link] = (parts[link], moment)
    return tuple([(a, b, fraction(most[a, b][0]), most[a, b][1]) for a, b in sorted(most)])


def need_demands(net, value):
    """Raises BadDemands if these are no demands in this net."""
    if not are_demands(value, net.routers):
        raise BadDemands(value)


def are_demands(value, routers):
    """Whether this is an ascending tuple of at most 12 demands, none for the same pair as another."""
    if not isinstance(value, tuple) or len(value) > MOST_DEMANDS:
        return False
    # Where the pairs rise, the demands do too, and no pair is there twice.
    return all([is_demand(each, routers) for each in value]) and is_rising([each[:2] for each in value])


def is_demand(value, routers):
    """Whether this is a triple of two different routers and an amount."""
    if not is_tuple_of(value, 3):
        return False
    router, d, amount = value
    return router in routers and d in routers and router != d and is_integer_from(amount, 1)


def moments_that_count(olds, news, demands):
    """Moments such that at any other one the loads are as they are at one of these."""
    goals = [d for router, d, amount in demands]
    # Whether a router has learnt that sends on as before is the same to all packets.
    return moments_of([router for router in olds if any([olds[d][router] != news[d][router] for d in goals])])


def tables_at(olds, news, moment):
    """The tables of all destinations at a moment."""
    return {d: at_moment(olds[d], news[d], moment) for d in olds}


def parts_of(tables, demands):
    """A dict: for each pair of a router and a next one the load between them, perhaps 0."""
    found = {}
    for d in sorted(set([demand[1] for demand in demands])):
        add_parts(found, tables[d], [demand for demand in demands if demand[1] == d])
    return found


def add_parts(found, onward, demands):
    """Adds the loads that these demands, all for one destination, bring onto the links."""
    through = {router: 0 for router in onward}
    for router, _, amount in demands:
        through[router] = amount * WHOLE
    ranks = ranks_of(onward)
    # From the greatest rank down, so that all that comes to a router is there before it is parted.
    for router in sorted(ranks, key=lambda each: -ranks[each]):
        for n in onward[router]:
            part = through[router] // len(onward[router])
            through[n] += part
            found[router, n] = found.get((router, n), 0) + part


def in_fractions(parts):
    """The ascending tuple of (a, b, load) for all loads above 0."""
    return tuple([(a, b, fraction(parts[a, b])) for a, b in sorted(parts) if parts[a, b] > 0])


def fraction(parts):
    """The fraction of a load, in lowest terms."""
    by = gcd(parts, WHOLE)
    return (parts // by, WHOLE // by)
