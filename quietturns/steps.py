"""Steps: one link's lengths changed with as few stops as possible, so that no packet turns."""

from quietturns.errors import BadShift
from quietturns.judging import turning
from quietturns.shifts import points, shifted, stretch
from quietturns.tables import next_tables
from quietturns.values import is_integer, is_rising, is_tuple_of


def steps(net, a, b, start, goal):
    """("steps", stops, rings): the fewest quiet stops, and as many rings that each demand one of their own."""
    need_shifts(net, a, b, start, goal)
    low, high = in_order(start, goal)
    stops, rings = [], []
    first = first_ring(net, a, b, low, high)
    while first is not None:
        rings.append(first)
        # The greatest shift to which a step does not turn: no ring behind it shares a stop with this one.
        stops.append(first[2][1] - 1)
        first = first_ring(net, a, b, stops[-1], high)
    return ("steps", turned_about(tuple(stops), start, low), tuple(rings))


def shows_steps(net, a, b, start, goal, value):
    """Whether this is such a triple."""
    need_shifts(net, a, b, start, goal)
    if not is_tuple_of(value, 3) or value[0] != "steps":
        return False
    stops, rings = value[1:]
    if not isinstance(stops, tuple) or not is_tuple_of(rings, len(stops)):
        return False
    low, high = in_order(start, goal)
    if not are_between(turned_about(stops, start, low), low, high):
        return False
    return are_rings(net, a, b, low, high, rings) and are_quiet(net, a, b, (start, *stops, goal))


def need_shifts(net, a, b, start, goal):
    """Raises NoLink, or BadShift unless start and goal are two shifts."""
    shifted(net, a, b, start)
    shifted(net, a, b, goal)
    if start == goal:
        raise BadShift(goal)


def in_order(start, goal):
    """The lesser and the greater one of two shifts; None is above all integers."""
    if start is None or goal is not None and goal < start:
        return goal, start
    return start, goal


def turned_about(stops, start, low):
    """The stops in order from low, of those in order from start, or the other way round."""
    return stops if start == low else stops[::-1]


def is_up_to(t, high):
    """Whether a shift that is an integer is not above another shift."""
    return high is None or t <= high


def first_ring(net, a, b, low, high):
    """A triple (d, ring, stretch) whose stretch lies between low and high and ends first, None if there is none."""
    olds = next_tables(shifted(net, a, b, low))
    for t in points(net, a, b):
        if t > low and is_up_to(t, high):
            found = turning(olds, next_tables(shifted(net, a, b, t)))
            if found is not None:
                # Steps from low to lesser points do not turn, so the stretch ends at t.
                d, ring = found[1:3]
                return (d, ring, stretch(net, a, b, d, ring))
    return None


def are_between(stops, low, high):
    """Whether these are ascending integers strictly between two shifts."""
    if not all([is_integer(t) for t in stops]) or not is_rising(stops):
        return False
    return all([low < t and is_up_to(t + 1, high) for t in stops])


def are_quiet(net, a, b, shifts):
    """Whether no step from one of these shifts to the one after it turns."""
    tables = [next_tables(shifted(net, a, b, t)) for t in shifts]
    return all([turning(olds, news) is None for olds, news in zip(tables, tables[1:])])


def are_rings(net, a, b, low, high, rings):
    """Whether these are triples (d, ring, stretch) that each demand a stop of their own between low and high."""
    if not all([is_tuple_of(value, 3) and is_span(value[2]) for value in rings]):
        return False
    spans = [span for d, ring, span in rings]
    if not lie_apart(spans) or not all([low <= span[0] and is_up_to(span[1], high) for span in spans]):
        return False
    # One after the other, as there may be many more than a net has, and those it has are soon found out.
    for d, ring, span in rings:
        if d not in net.routers or span != stretch(net, a, b, d, ring):
            return False
    return True


def is_span(value):
    """Whether this is a pair of integers with another one between them."""
    return is_tuple_of(value, 2) and all([is_integer(t) for t in value]) and value[0] + 1 < value[1]


def lie_apart(spans):
    """Whether these spans ascend, and no integer lies strictly within two of them."""
    # Each of them has an integer within, so if any two share one, two that stand side by side do.
    return is_rising(spans) and all([one[1] - 1 <= other[0] for one, other in zip(spans, spans[1:])])
