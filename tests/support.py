"""What several tests need: nets, values of every kind, changed values, and ways found by trying all of them."""

import doctest
import random
import unittest

from quietturns.errors import NoLink
from quietturns.nets import Net

SQUARE = Net(('a', 'b', 'c', 'd'), (('a', 'b', 1, 1), ('a', 'd', 5, 5), ('b', 'c', 1, 1), ('c', 'd', 1, 1)))
EIGHT = ('a', 'b', 'c', 'd', 'e', 'f', 'g', 'h')
PAIRS = tuple((a, b) for a in EIGHT for b in EIGHT if a < b)

GREAT = 10 ** 40 + 7
# Links that are none of the square: turned round, of routers without one, of no routers.
NO_LINKS = (('d', 'c'), ('b', 'a'), ('a', 'c'), ('a', 'a'), ('c', 'z'), ('z', 'd'), ('', ''))
WORDS = ('a', 'b', 'c', 'd', 'e', 'zz', '', 'A', 'turns', 'lost', 'quiet', 'steps', 'rounds', 'none', 'stops',
         'lengths', 'bag')


class Case(unittest.TestCase):

    def setUp(self):
        self.before = repr_of(SQUARE)

    def tearDown(self):
        self.assertEqual(repr_of(SQUARE), self.before)

    def raised(self, kind, call, *passed, **named):
        """The error of just this class that the call raises."""
        with self.assertRaises(kind) as caught:
            call(*passed, **named)
        self.assertIs(caught.exception.__class__, kind)
        return caught.exception

    def pair_of(self, value, a, b):
        """Expects the pair of just these two."""
        self.assertIs(value.__class__, tuple)
        self.assertEqual(len(value), 2)
        self.assertIs(value[0], a)
        self.assertIs(value[1], b)

    def example(self, text, many):
        """Expects that an example of DOC.md, of so many lines, shows what the program does."""
        test = doctest.DocTestParser().get_doctest(text, {}, self.id(), None, 0)
        self.assertEqual(len(test.examples), many)
        self.assertEqual(doctest.DocTestRunner().run(test).failed, 0)

    def tells(self, call, value, expected):
        """Expects True or False of a call with this value, which stays as it was."""
        before = repr_of(value)
        self.assertIs(call(value), bool(expected), before)
        self.assertEqual(repr_of(value), before)


class LinkCase(Case):

    def no_link(self, call, *more):
        """Expects NoLink with the pair for all that is no link, whatever is passed behind."""
        for a, b in NO_LINKS:
            self.pair_of(self.raised(NoLink, call, SQUARE, a, b, *more).value, a, b)
        for value in any_values():
            for a, b in ((value, 'd'), ('c', value), (value, value), (value, ['d'])):
                self.pair_of(self.raised(NoLink, call, SQUARE, a, b, *more).value, a, b)


def repr_of(value):
    """A text that also tells True from 1, and shows what is in a net."""
    if isinstance(value, Net):
        return f'Net{(value.routers, value.links)!r}'
    if isinstance(value, (tuple, list)):
        return f'{value.__class__.__name__}({", ".join([repr_of(each) for each in value])})'
    if isinstance(value, dict):
        return f'dict({repr_of(list(value.items()))})'
    return repr(value)


def nested(make, levels=20):
    """A value of so many levels, each put into the next by make."""
    value = 'a'
    for _ in range(levels):
        value = make(value)
    return value


def any_values():
    """Values of every kind that may be passed, new ones for each call; none is a router of SQUARE."""
    return [
        0, 1, 2, -1, 9999999999, -9999999999, True, False, None,
        '', 'e', 'A', 'ab', 'aaaaaaaaa', 'a ', ' a', '1', 'a1', 'a\n', '\u00e9', '\u00df', '\uff41', '`', '{',
        (), ('a',), ('a', 'b'), ('a', ('b', ['c', {'d': None}])), (('a', 'b', 1, 1),),
        [], ['a'], ['a', 'b'], [['a', 'b', 1, 1]], {}, {'a': 'b'}, {'a': [1]}, {('a', 'b'): 1},
        Net(('a', 'b'), ()), SQUARE, [SQUARE], {'a': SQUARE}, (SQUARE, SQUARE),
        nested(lambda value: (value,)), nested(lambda value: [value]), nested(lambda value: {'a': value}),
        nested(lambda value: [(value, {1: SQUARE})], 10),
    ]


def changed(value):
    """Values made from a result: parts left out, doubled, turned about, put elsewhere, made greater, of other kinds."""
    if value.__class__ is tuple:
        yield from [list(value), value[::-1], value + value, (value,), dict(enumerate(value)), ()]
        for at, part in enumerate(value):
            head, tail = value[:at], value[at + 1:]
            yield from [part, head + tail, head + (part, part) + tail, (part,) + head + tail, head + tail + (part,)]
            yield from [head + tail[:1] + (part,) + tail[1:]]
            for other in changed(part):
                yield head + (other,) + tail
    elif value.__class__ is int:
        yield from [value + 1, value - 1, -value, 2 * value, value * GREAT, value + GREAT, value - GREAT,
                    bool(value), None, str(value), (value,), [value]]
    elif value.__class__ is str:
        yield from [*WORDS, value + value, (value,), [value], {value: value}, None, 0, True]


def replaced(value):
    """Results with a value of every kind in place of one part, or of the whole."""
    yield from any_values()
    if value.__class__ is tuple:
        for at, part in enumerate(value):
            for other in replaced(part):
                yield value[:at] + (other,) + value[at + 1:]


def not_ascending(value):
    """The tuple turned about, with a part doubled, and with parts in other places; none of them ascends."""
    found = [value + value[-1:], value[:1] + value, value + value]
    if len(value) > 1:
        found += [value[::-1], value[1:] + value[:1], value[1::-1] + value[2:]]
    return found


def is_length(value):
    """Whether value is an integer from 1, told by its class."""
    return value.__class__ is int and value > 0


def full_net():
    """A net with 8 routers and 16 links; g and h have none but between them."""
    pairs = [pair for pair in PAIRS if pair[1] < 'g'] + [('g', 'h')]
    return Net(EIGHT, tuple((a, b, at + 1, 20 - at) for at, (a, b) in enumerate(pairs)))


def some_nets(many, most_routers=5, most_links=7, greatest=4, seed=1):
    """Nets of all kinds, the same ones for equal calls."""
    source = random.Random(seed)
    nets = []
    for _ in range(many):
        routers = EIGHT[:source.randint(2, most_routers)]
        pairs = [pair for pair in PAIRS if pair[1] in routers]
        chosen = sorted(source.sample(pairs, source.randint(0, min(most_links, len(pairs)))))
        nets.append(Net(routers, tuple(pair + (source.randint(1, greatest), source.randint(1, greatest))
                                       for pair in chosen)))
    return nets


def links_of(nets):
    """Each net with each of its links."""
    return [(net, link[0], link[1]) for net in nets for link in net.links]


def some_pairs(many, most_routers=4, greatest=4, seed=1):
    """Pairs of nets with the same routers: links put in, taken out, with other lengths, all anew, or as they were."""
    source = random.Random(seed)
    others = some_nets(20 * many, most_routers, 6, greatest, seed + 1)
    pairs = []
    for old in some_nets(many, most_routers, 6, greatest, seed):
        new = old
        for _ in range(source.randint(0, 3)):
            a, b = source.choice([pair for pair in PAIRS if pair[1] in old.routers])
            if (a, b) in [link[:2] for link in new.links] and source.randint(0, 2):
                new = new.without(a, b)
            else:
                new = new.with_link(a, b, source.randint(1, greatest), source.randint(1, greatest))
        if source.randint(0, 2) == 0:
            new = source.choice([net for net in others if net.routers == old.routers])
        pairs.append((old, new))
    return pairs


def some_demands(source, routers, many, greatest=6):
    """Demands of these routers, of which there are so many, or as many as there can be."""
    pairs = [(a, d) for a in routers for d in routers if a != d]
    chosen = sorted(source.sample(pairs, min(many, len(pairs))))
    return tuple(pair + (source.randint(1, greatest),) for pair in chosen)


def greater_square(size):
    """The square with lengths so many times as great."""
    return Net(SQUARE.routers, tuple((a, b, there * size, back * size) for a, b, there, back in SQUARE.links))


def great_net(seed, greatest=10 ** 9, links=16):
    """A net with 8 routers and 16 links, with lengths of many digits."""
    source = random.Random(seed)
    return Net(EIGHT, tuple(pair + (source.randint(1, greatest), source.randint(1, greatest))
                            for pair in sorted(source.sample(PAIRS, links))))


def all_ways(net, a, d, used=()):
    """All ways from a to d, with each link once at most: tuples of (routers, length)."""
    found = [((a,), 0)] if a == d else []
    for low, high, there, back in net.links:
        if (low, high) in used or a not in (low, high):
            continue
        n, length = (high, there) if a == low else (low, back)
        for routers, rest in all_ways(net, n, d, used + ((low, high),)):
            found.append(((a,) + routers, length + rest))
    return found


def shortest_ways(net, a, d):
    """The routers of each shortest way from a to d, and the length of these, None without a way."""
    found = all_ways(net, a, d)
    best = min([length for _, length in found], default=None)
    return [routers for routers, length in found if length == best], best
