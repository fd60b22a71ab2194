"""Moments: which routers have learnt, and to which routers each of them sends on then."""

from quietturns.errors import Unlike
from quietturns.rings import ring_of
from quietturns.values import is_rising


def need_same_routers(old, new):
    """Raises Unlike if the two nets do not have the same routers."""
    if old.routers != new.routers:
        raise Unlike()


def is_moment(value, routers):
    """Whether this is an ascending tuple of these routers."""
    return isinstance(value, tuple) and all([router in routers for router in value]) and is_rising(value)


def moments_of(routers):
    """All moments of these routers, which ascend; () is the first one."""
    found = [()]
    for router in routers:
        found = found + [moment + (router,) for moment in found]
    return found


def at_moment(before, after, moment):
    """The table for one destination at a moment, from its tables by old and by new."""
    return {router: after[router] if router in moment else before[router] for router in before}


def is_sound(olds, news, moment):
    """Whether at this moment, with nobody learning, no packet turns or is lost, by the tables of old and new."""
    for d in olds:
        onward = at_moment(olds[d], news[d], moment)
        if ring_of(onward) is not None or loses(onward, d):
            return False
    return True


def loses(onward, d):
    """Whether a router sends on to one that is not d and has no next router."""
    return any([is_losing(onward, d, n) for router in onward for n in onward[router]])


def is_losing(onward, d, n):
    """Whether n gives up what it is sent for d."""
    return n != d and not onward[n]
