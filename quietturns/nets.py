"""Nets: routers, and the links between them with a length for each direction."""

from quietturns.errors import BadLength, BadLink, BadNet, NoLink, NoRouter, TooMany
from quietturns.values import is_integer_from, is_name, is_rising

FEWEST_ROUTERS = 2
MOST_ROUTERS = 8
MOST_LINKS = 16


class Net:
    """An immutable net."""

    def __init__(self, routers, links):
        if not are_routers(routers) or not are_links(links, routers):
            raise BadNet((routers, links))
        self._routers = routers
        self._links = links

    # Without setters, so that a net stays as it was made.
    @property
    def routers(self):
        """The ascending tuple of the names of the routers."""
        return self._routers

    @property
    def links(self):
        """The ascending tuple of the links (a, b, there, back)."""
        return self._links

    def __eq__(self, other):
        return isinstance(other, Net) and self.routers == other.routers and self.links == other.links

    def length(self, a, b):
        """The length from a to b, None if there is no link between them."""
        need_routers(self, a, b)
        for low, high, there, back in self.links:
            if (a, b) == (low, high):
                return there
            if (b, a) == (low, high):
                return back
        return None

    def with_link(self, a, b, there, back):
        """A new net with this link, which replaces one between a and b."""
        need_routers(self, a, b)
        if a >= b:
            raise BadLink((a, b))
        for value in (there, back):
            if not is_length(value):
                raise BadLength(value)
        others = self._links_without(a, b)
        if len(others) == MOST_LINKS:
            raise TooMany()
        return Net(self.routers, tuple(sorted(others + [(a, b, there, back)])))

    def without(self, a, b):
        """A new net without the link (a, b, ..)."""
        others = self._links_without(a, b)
        if len(others) == len(self.links):
            raise NoLink((a, b))
        return Net(self.routers, tuple(others))

    def _links_without(self, a, b):
        return [link for link in self.links if link[:2] != (a, b)]


def need_routers(net, a, b):
    """Raises NoRouter for the first of both that is not a router of the net."""
    need_router(net, a)
    need_router(net, b)


def need_router(net, value):
    """Raises NoRouter if this is not a router of the net."""
    if value not in net.routers:
        raise NoRouter(value)


def is_length(value):
    """Whether this is a length: an integer from 1."""
    return is_integer_from(value, 1)


def are_routers(value):
    """Whether this is an ascending tuple of 2 to 8 names."""
    if not isinstance(value, tuple) or not FEWEST_ROUTERS <= len(value) <= MOST_ROUTERS:
        return False
    return all([is_name(name) for name in value]) and is_rising(value)


def are_links(value, routers):
    """Whether this is an ascending tuple of links of these routers, one for each pair at most."""
    if not isinstance(value, tuple) or len(value) > MOST_LINKS:
        return False
    # Where the pairs rise, the links do too, and no pair is there twice.
    return all([is_link(link, routers) for link in value]) and is_rising([link[:2] for link in value])


def is_link(value, routers):
    """Whether this is a link (a, b, there, back) of these routers."""
    if not isinstance(value, tuple) or len(value) != 4:
        return False
    a, b, there, back = value
    return a in routers and b in routers and a < b and is_length(there) and is_length(back)
