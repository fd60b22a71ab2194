"""Lines: several links that grow longer together, and the steps in which they may do so."""

from quietturns.errors import BadCaps, BadOffers, BadRates, BadShift
from quietturns.growth import grown, spans_of
from quietturns.levels import are_levels, between, fewest_steps
from quietturns.loads import need_demands
from quietturns.papers import are_papers, cheapest_ways, papers_of
from quietturns.places import Places
from quietturns.values import is_integer, is_integer_from, is_rising, is_tuple_of

MOST_RATES = 16
MOST_RATE = 9
MOST_CAPS = 8
MOST_OFFERS = 12
MOST_PRICE = 999


class Line:
    """A net, and the rates at which both lengths of some of its links grow."""

    def __init__(self, net, rates):
        if not are_rates(rates, net):
            raise BadRates(rates)
        self._net = net
        self._rates = rates

    # Without setters, as those of a net.
    @property
    def net(self):
        """The net at 0."""
        return self._net

    @property
    def rates(self):
        """The ascending tuple of the triples (a, b, rate)."""
        return self._rates

    def __eq__(self, other):
        return isinstance(other, Line) and self.net == other.net and self.rates == other.rates

    def at(self, t):
        """The net in which both lengths of each of these links are greater by its rate, t times."""
        if not is_integer_from(t, 0):
            raise BadShift(t)
        return grown(self.net, self.rates, t)

    def classes(self, goal):
        """The tuple of the pairs (first, last), from 0 to goal, of the greatest stretches with the same tables."""
        need_goal(goal)
        return tuple(spans_of(self.net, self.rates, goal))

    def steps(self, goal, demands=(), caps=()):
        """("steps", stops, levels) with the fewest stops such that all steps are fine, or ("none", levels)."""
        spans, places = self._spans_and_places(goal, demands, caps)
        found = fewest_steps(places)
        levels = tuple([level for level, low in found])
        if levels[-1] is None:
            return ("none", levels)
        return ("steps", tuple([spans[at][0] for at in between(found)]), levels)

    def shows_steps(self, goal, value, demands=(), caps=()):
        """Whether this is such a result."""
        spans, places = self._spans_and_places(goal, demands, caps)
        alone = spans[0] == (0, 0)
        if is_tuple_of(value, 2):
            return value[0] == "none" and are_levels(value[1], places, alone) and value[1][-1] is None
        if not is_tuple_of(value, 3) or value[0] != "steps":
            return False
        stops, levels = value[1:]
        if not isinstance(stops, tuple) or not are_stops(stops, goal):
            return False
        # Right levels are never above the fewest steps, so the stops are as few as can be if there are so many.
        if not are_levels(levels, places, alone) or levels[-1] != len(stops) + 1:
            return False
        return places.are_fine([place_of(spans, t) for t in (0, *stops, goal)])

    def cheapest(self, goal, offers, demands=(), caps=()):
        """("stops", stops, price, papers) with the cheapest offered stops, or ("none", papers)."""
        places = self._places_of_offers(goal, offers, demands, caps)
        ways = cheapest_ways(places, offers)
        if ways[-1] is None:
            return ("none", papers_of(ways))
        price, _, stops = ways[-1]
        return ("stops", stops, price, papers_of(ways))

    def shows_cheapest(self, goal, offers, value, demands=(), caps=()):
        """Whether this is such a result, perhaps with more stops, or others, of the same price."""
        places = self._places_of_offers(goal, offers, demands, caps)
        if is_tuple_of(value, 2):
            return value[0] == "none" and are_papers(value[1], places, offers) and value[1][-1] is None
        if not is_tuple_of(value, 4) or value[0] != "stops":
            return False
        stops, price, papers = value[1:]
        taken = places_of(stops, offers)
        if taken is None or not is_integer(price) or price != sum([offers[at - 1][1] for at in taken]):
            return False
        if not are_papers(papers, places, offers) or papers[-1] != price:
            return False
        return places.are_fine([0, *taken, len(offers) + 1])

    def _spans_and_places(self, goal, demands, caps):
        need_goal(goal)
        need_demands(self.net, demands)
        need_caps(self.net, caps)
        spans = spans_of(self.net, self.rates, goal)
        return spans, Places([self.at(first) for first, last in spans], demands, caps)

    def _places_of_offers(self, goal, offers, demands, caps):
        need_goal(goal)
        if not are_offers(offers, goal):
            raise BadOffers(offers)
        need_demands(self.net, demands)
        need_caps(self.net, caps)
        return Places([self.at(0)] + [self.at(t) for t, price in offers] + [self.at(goal)], demands, caps)


def need_goal(value):
    """Raises BadShift if this is no integer from 1."""
    if not is_integer_from(value, 1):
        raise BadShift(value)


def need_caps(net, value):
    """Raises BadCaps if these are no caps for links of the net."""
    if not are_caps(value, net):
        raise BadCaps(value)


def are_rates(value, net):
    """Whether this is an ascending tuple of 1 to 16 rates of links of the net, none for the same link as another."""
    pairs = [link[:2] for link in net.links]
    if not isinstance(value, tuple) or not 1 <= len(value) <= MOST_RATES:
        return False
    return all([is_rate(each, pairs) for each in value]) and is_rising([each[:2] for each in value])


def is_rate(value, pairs):
    """Whether this is a triple of one of these pairs and a rate."""
    return is_tuple_of(value, 3) and value[:2] in pairs and is_integer_from(value[2], 1) and value[2] <= MOST_RATE


def are_caps(value, net):
    """Whether this is an ascending tuple of at most 8 caps for links of the net, none for the same way as another."""
    if not isinstance(value, tuple) or len(value) > MOST_CAPS:
        return False
    return all([is_cap(each, net) for each in value]) and is_rising([each[:2] for each in value])


def is_cap(value, net):
    """Whether this is a triple of two routers with a link and a cap."""
    if not is_tuple_of(value, 3):
        return False
    a, b, cap = value
    return a in net.routers and b in net.routers and net.length(a, b) is not None and is_integer_from(cap, 0)


def are_offers(value, goal):
    """Whether this is an ascending tuple of at most 12 offers between 0 and goal, none at the same time as another."""
    if not isinstance(value, tuple) or len(value) > MOST_OFFERS:
        return False
    return all([is_offer(each) for each in value]) and are_stops([each[0] for each in value], goal)


def is_offer(value):
    """Whether this is a pair of an integer and a price."""
    return is_tuple_of(value, 2) and is_integer(value[0]) and is_integer_from(value[1], 0) and value[1] <= MOST_PRICE


def are_stops(value, goal):
    """Whether these are ascending integers strictly between 0 and goal."""
    return all([is_integer(t) and 0 < t < goal for t in value]) and is_rising(value)


def place_of(spans, t):
    """The number of the class of t."""
    return len([first for first, last in spans if first <= t]) - 1


def places_of(stops, offers):
    """The numbers of the places of offered stops, None if this is no ascending tuple of such."""
    times = [t for t, price in offers]
    if not isinstance(stops, tuple) or not all([is_integer(t) and t in times for t in stops]) or not is_rising(stops):
        return None
    return [times.index(t) + 1 for t in stops]
