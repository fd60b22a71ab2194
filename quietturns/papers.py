"""Papers: the cheapest fine steps out of given offers, and numbers below which no price can come.

The places are those of 0, of each offer in order, and of goal.
"""

from quietturns.values import is_integer, is_tuple_of


def cheapest_ways(places, offers):
    """For each place the least (price, number of stops, stops) with which fine steps lead there, None without any."""
    found = [(0, 0, ())]
    for high in range(1, places.size()):
        ways = [found[low] for low in range(high) if found[low] is not None and places.is_fine(low, high)]
        found.append(with_stops(min(ways), offers[high - 1:high]) if ways else None)
    return found


def with_stops(way, offers):
    """The way with the stops of these offers behind its own."""
    price, many, stops = way
    for t, more in offers:
        price, many, stops = price + more, many + 1, stops + (t,)
    return (price, many, stops)


def papers_of(ways):
    """The prices of the ways to each offer and to goal, None without a way."""
    return tuple([None if way is None else way[0] for way in ways[1:]])


def are_papers(value, places, offers):
    """Whether these are right papers for some price."""
    if not is_tuple_of(value, places.size() - 1) or not all([is_paper(paper) for paper in value]):
        return False
    papers, prices = (0,) + value, [0] + [price for t, price in offers] + [0]
    for high in range(1, places.size()):
        for low in range(high):
            if is_too_dear(papers[high], papers[low], prices[high]) and places.is_fine(low, high):
                return False
    return True


def is_paper(value):
    """Whether this is None or an integer."""
    return value is None or is_integer(value)


def is_too_dear(paper, before, price):
    """Whether no fine step can lead to a place with this paper and price from one with the paper before."""
    return before is not None and (paper is None or paper > before + price)
