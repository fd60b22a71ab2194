"""Judging: whether packets can turn or be lost while the routers learn a new net one by one."""

from quietturns.moments import at_moment, is_losing, is_moment, need_same_routers
from quietturns.rings import is_row, links_round, ranks_of, ring_of
from quietturns.tables import next_tables
from quietturns.values import is_integer, is_tuple_of


def judged(old, new):
    """("turns", d, ring, moment), otherwise ("lost", d, pair, moment), otherwise ("quiet", ranks)."""
    need_same_routers(old, new)
    olds, news = next_tables(old), next_tables(new)
    found = turning(olds, news)
    if found is None:
        found = losing(olds, news)
    if found is None:
        found = ("quiet", tuple([ranks_for(olds[d], news[d]) for d in old.routers]))
    return found


def shows_judged(old, new, value):
    """Whether this is a tuple of one of the three forms that fits."""
    need_same_routers(old, new)
    olds, news = next_tables(old), next_tables(new)
    if is_tuple_of(value, 2):
        return value[0] == "quiet" and are_ranks(value[1], olds, news) and losing(olds, news) is None
    return is_tuple_of(value, 4) and fits_at_moment(value, olds, news, old.routers)


def turning(olds, news):
    """("turns", d, ring, moment) by the tables of both nets, None if no packet can turn."""
    for d in olds:
        ring = ring_of(joined(olds[d], news[d]))
        if ring is not None:
            learnt = [router for router, n in links_round(ring) if n not in olds[d][router]]
            return ("turns", d, ring, tuple(sorted(learnt)))
    return None


def losing(olds, news):
    """("lost", d, pair, moment) by the tables of both nets, None if no packet can be lost."""
    for d in olds:
        onward = joined(olds[d], news[d])
        for router in onward:
            for n in onward[router]:
                if is_losing(olds[d], d, n) or is_losing(news[d], d, n):
                    return ("lost", d, (router, n), losing_moment(olds[d], router, n))
    return None


def losing_moment(before, router, n):
    """A moment at which router sends on to n, which then loses by old or by new."""
    learnt = []
    if n not in before[router]:
        learnt.append(router)
    # With next routers by old, it is by new that n loses.
    if before[n]:
        learnt.append(n)
    return tuple(sorted(learnt))


def joined(before, after):
    """The routers to which each router may send on for one destination, by old or by new."""
    return {router: before[router] + after[router] for router in before}


def ranks_for(before, after):
    """The ranks for one destination, in the order of the routers."""
    ranks = ranks_of(joined(before, after))
    return tuple([ranks[router] for router in before])


def fits_at_moment(value, olds, news, routers):
    """Whether these four parts tell of a ring or of a loss at a moment."""
    word, d, part, moment = value
    if d not in routers or not is_moment(moment, routers):
        return False
    onward = at_moment(olds[d], news[d], moment)
    if word == "turns":
        return is_row(part, routers) and all([n in onward[router] for router, n in links_round(part)])
    return word == "lost" and is_row(part, routers) and is_loss(part, onward, d)


def is_loss(row, onward, d):
    """Whether this row of routers is a pair, the first one of which sends on to the second, which loses for d."""
    return len(row) == 2 and row[1] in onward[row[0]] and is_losing(onward, d, row[1])


def are_ranks(value, olds, news):
    """Whether these are ranks for all destinations, that fall along every link by old and by new."""
    if not is_tuple_of(value, len(olds)):
        return False
    return all([are_ranks_for(row, joined(olds[d], news[d])) for row, d in zip(value, olds)])


def are_ranks_for(value, onward):
    """Whether these are ranks that fall wherever a router may send on."""
    if not is_tuple_of(value, len(onward)) or not all([is_integer(rank) for rank in value]):
        return False
    ranks = {router: rank for router, rank in zip(onward, value)}
    return all([ranks[n] < ranks[router] for router in onward for n in onward[router]])
