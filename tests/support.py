"""What several tests need: nets, values of every kind, and ways found by trying all of them."""

import random

from quietturns.nets import Net

SQUARE = Net(('a', 'b', 'c', 'd'), (('a', 'b', 1, 1), ('a', 'd', 5, 5), ('b', 'c', 1, 1), ('c', 'd', 1, 1)))
EIGHT = ('a', 'b', 'c', 'd', 'e', 'f', 'g', 'h')
PAIRS = tuple((a, b) for a in EIGHT for b in EIGHT if a < b)


def nested(make, levels=20):
    """A value of so many levels, each put into the next by make."""
    value = 'a'
    for _ in range(levels):
        value = make(value)
    return value


def any_values():
    """Values of every kind that may be passed, new ones for each call; none is a router of SQUARE."""
    return [
        0, 1, 2, -1, 9999999999, -9999999999, True, False, None,
        '', 'e', 'A', 'ab', 'aaaaaaaaa', 'a ', ' a', '1', 'a1', 'a\n', '\u00e9', '\u00df', '\uff41', '`', '{',
        (), ('a',), ('a', 'b'), ('a', ('b', ['c', {'d': None}])), (('a', 'b', 1, 1),),
        [], ['a'], ['a', 'b'], [['a', 'b', 1, 1]], {}, {'a': 'b'}, {'a': [1]}, {('a', 'b'): 1},
        Net(('a', 'b'), ()), SQUARE, [SQUARE], {'a': SQUARE}, (SQUARE, SQUARE),
        nested(lambda value: (value,)), nested(lambda value: [value]), nested(lambda value: {'a': value}),
        nested(lambda value: [(value, {1: SQUARE})], 10),
    ]


def is_length(value):
    """Whether value is an integer from 1, told by its class."""
    return value.__class__ is int and value > 0


def full_net():
    """A net with 8 routers and 16 links; g and h have none but between them."""
    pairs = [pair for pair in PAIRS if pair[1] < 'g'] + [('g', 'h')]
    return Net(EIGHT, tuple((a, b, at + 1, 20 - at) for at, (a, b) in enumerate(pairs)))


def some_nets(many, most_routers=5, most_links=7, greatest=4, seed=1):
    """Nets of all kinds, the same ones for equal calls."""
    source = random.Random(seed)
    nets = []
    for _ in range(many):
        routers = EIGHT[:source.randint(2, most_routers)]
        pairs = [pair for pair in PAIRS if pair[1] in routers]
        chosen = sorted(source.sample(pairs, source.randint(0, min(most_links, len(pairs)))))
        nets.append(Net(routers, tuple(pair + (source.randint(1, greatest), source.randint(1, greatest))
                                       for pair in chosen)))
    return nets


def all_ways(net, a, d, used=()):
    """All ways from a to d, with each link once at most: tuples of (routers, length)."""
    found = [((a,), 0)] if a == d else []
    for low, high, there, back in net.links:
        if (low, high) in used or a not in (low, high):
            continue
        n, length = (high, there) if a == low else (low, back)
        for routers, rest in all_ways(net, n, d, used + ((low, high),)):
            found.append(((a,) + routers, length + rest))
    return found


def shortest_ways(net, a, d):
    """The routers of each shortest way from a to d, and the length of these, None without a way."""
    found = all_ways(net, a, d)
    best = min([length for _, length in found], default=None)
    return [routers for routers, length in found if length == best], best
