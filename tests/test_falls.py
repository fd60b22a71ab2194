"""Section 12."""

import unittest

from flows import neighbours, played_fall, rows_back, walked_alternates, without, word_of_fall
from quietturns.errors import NoEnd
from quietturns.falls import alternates, falls, losers, way_back
from quietturns.judging import judged
from quietturns.nets import Net
from search import tables_of
from support import EIGHT, SQUARE, LinkCase, any_values, full_net, great_net, links_of, repr_of, some_nets

EXAMPLE = """
>>> from quietturns.falls import alternates, falls, losers, way_back
>>> from quietturns.nets import Net
>>> net = Net(('a', 'b', 'c', 'd'), (('a', 'b', 1, 1), ('a', 'd', 5, 5), ('b', 'c', 1, 1), ('c', 'd', 1, 1)))
>>> [falls(net), losers(net, 'c', 'd')[:3]]
[(('a', 'b', 'turns'), ('a', 'd', 'quiet'), ('b', 'c', 'turns'), ('c', 'd', 'turns')), (('a', 'd'), ('b', 'd'), ('c', 'd'))]
>>> [alternates(net, 'c', 'd')[:2], way_back(net, 'c', 'd', 'c', 'd', 'b')]
[(('c', 'd', ()), ('d', 'a', ('a',))), ('b', 'c')]
"""
FOUR = ('a', 'b', 'c', 'd')
CHAIN = Net(('a', 'b', 'c'), (('a', 'b', 1, 1), ('b', 'c', 1, 1)))
TRIANGLE = Net(('a', 'b', 'c'), (('a', 'b', 1, 1), ('a', 'c', 1, 1), ('b', 'c', 1, 1)))
# For d there are two shortest ways from a, so that b and c are next routers.
DOUBLE = Net(FOUR, (('a', 'b', 1, 1), ('a', 'c', 1, 1), ('b', 'd', 1, 1), ('c', 'd', 1, 1)))
# A ring of links round eight routers.
ROUND = Net(EIGHT, tuple(sorted([(a, b, 1, 1) for a, b in zip(EIGHT, EIGHT[1:])] + [('a', 'h', 1, 1)])))


class Falls(LinkCase):

    def right(self, net):
        """Expects the words that playing all runs finds, and returns them."""
        before, value = repr_of(net), falls(net)
        with self.subTest(links=net.links):
            self.assertEqual(value, tuple((a, b, word_of_fall(net, a, b)) for a, b, _, _ in net.links))
            self.assertEqual(falls(net), value)
            self.assertEqual(repr_of(net), before)
        return [word for _, _, word in value]

    def test_the_example(self):
        self.example(EXAMPLE, 5)

    def test_against_all_runs(self):
        words = [word for net in some_nets(150, most_routers=5, seed=61) for word in self.right(net)]
        self.assertEqual(sorted(set(words)), ['parts', 'quiet', 'turns'])
        self.assertGreater(min(words.count(word) for word in set(words)), 20)

    def test_nets_without_links(self):
        self.assertEqual(falls(Net(FOUR, ())), ())

    def test_a_link_that_parts_the_net(self):
        self.assertEqual(falls(CHAIN), (('a', 'b', 'parts'), ('b', 'c', 'parts')))
        self.assertEqual(self.right(Net(FOUR, CHAIN.links)), ['parts', 'parts'])
        # To and from a router at the end of a way; and between parts of which one turns on its own.
        net = Net(FOUR + ('e',), SQUARE.links + (('d', 'e', 1, 1),))
        self.assertEqual(self.right(net)[-1], 'parts')

    def test_the_fallen_link_is_in_no_ring(self):
        # So packets turn as they do when the link is taken out.
        for net in some_nets(200, most_routers=5, seed=64) + [SQUARE, DOUBLE, TRIANGLE, CHAIN]:
            for a, b, word in falls(net):
                self.assertEqual(word == 'turns', judged(net, without(net, a, b))[0] == 'turns')
        self.assertEqual(self.right(TRIANGLE), ['quiet'] * 3)

    def test_eight_routers_and_sixteen_links(self):
        for net in (full_net(), great_net(1), great_net(2), great_net(3, 3)):
            value = falls(net)
            self.assertEqual([row[:2] for row in value], [link[:2] for link in net.links])
            for a, b, word in value:
                after = tables_of(without(net, a, b))
                parted = any(nexts and not after[key] for key, nexts in tables_of(net).items())
                self.assertIn(word, ('turns', 'parts') if parted else ('turns', 'quiet'))
        self.assertEqual([word for _, _, word in falls(ROUND)], ['turns'] * 8)

    def test_by_name(self):
        self.assertEqual(falls(net=CHAIN), falls(CHAIN))


class Losers(LinkCase):

    def test_against_all_runs(self):
        seen = set()
        for net, a, b in links_of(some_nets(150, most_routers=5, seed=65) + [SQUARE, DOUBLE, TRIANGLE, CHAIN]):
            before, value = repr_of(net), losers(net, a, b)
            with self.subTest(links=net.links, a=a, b=b):
                self.assertEqual(value, played_fall(net, a, b)[1])
                self.assertEqual(losers(net, a, b), value)
                self.assertEqual(repr_of(net), before)
            seen.add(len(value))
        self.assertGreater(len(seen), 6)

    def test_an_end_itself(self):
        self.assertEqual(losers(CHAIN, 'a', 'b'), (('a', 'b'), ('a', 'c'), ('b', 'a'), ('c', 'a')))
        self.assertEqual(losers(Net(('a', 'b'), (('a', 'b', 1, 1),)), 'a', 'b'), (('a', 'b'), ('b', 'a')))
        # A link that begins no shortest way.
        self.assertEqual(losers(SQUARE, 'a', 'd'), ())

    def test_eight_routers_and_sixteen_links(self):
        for net in (full_net(), great_net(1)):
            for a, b, _, _ in net.links:
                value = losers(net, a, b)
                self.assertEqual(list(value), sorted(set(value)))
                for router, d in value:
                    self.assertNotEqual(router, d)

    def test_no_link(self):
        self.no_link(losers)

    def test_by_name(self):
        self.assertEqual(losers(b='d', a='c', net=SQUARE), losers(SQUARE, 'c', 'd'))


class Alternates(LinkCase):

    def test_against_all_walks(self):
        seen = {'none': 0, 'some': 0, 'all': 0}
        for net, a, b in links_of(some_nets(150, most_routers=5, seed=67) + [SQUARE, DOUBLE, TRIANGLE, CHAIN, ROUND]):
            before, value = repr_of(net), alternates(net, a, b)
            with self.subTest(links=net.links, a=a, b=b):
                self.assertEqual(value, walked_alternates(net, a, b))
                self.assertEqual(alternates(net, a, b), value)
                self.assertEqual(repr_of(net), before)
            for end, d, found in value:
                near = [n for n in neighbours(net, end) if n not in (a, b)]
                seen['all' if len(found) == len(near) else 'some' if found else 'none'] += 1
        self.assertGreater(min(seen.values()), 10)

    def test_the_destination_is_the_other_end(self):
        self.assertEqual(alternates(TRIANGLE, 'a', 'b'), (('a', 'b', ('c',)), ('b', 'a', ('c',))))
        self.assertIn(('c', 'd', ()), alternates(SQUARE, 'c', 'd'))

    def test_an_end_whose_only_next_router_is_the_other_end(self):
        # Of a's two next routers for d none is the only one; for b it is.
        self.assertEqual([row[:2] for row in alternates(DOUBLE, 'a', 'b')], [('a', 'b'), ('b', 'a'), ('b', 'c')][:2])
        self.assertEqual(alternates(SQUARE, 'a', 'd'), ())

    def test_an_end_without_other_neighbours(self):
        self.assertEqual(alternates(CHAIN, 'a', 'b'), (('a', 'b', ()), ('a', 'c', ()), ('b', 'a', ())))

    def test_no_link(self):
        self.no_link(alternates)

    def test_by_name(self):
        self.assertEqual(alternates(b='d', a='c', net=SQUARE), alternates(SQUARE, 'c', 'd'))


class WayBack(LinkCase):

    def test_against_all_walks(self):
        seen = {}
        for net, a, b in links_of(some_nets(150, most_routers=5, seed=68) + [SQUARE, DOUBLE, TRIANGLE, CHAIN, ROUND]):
            before = repr_of(net)
            for end, d, found in alternates(net, a, b):
                for n in [n for n in neighbours(net, end) if n not in (a, b)]:
                    value = way_back(net, a, b, end, d, n)
                    rows = rows_back(net, d, n, end)
                    with self.subTest(links=net.links, a=a, b=b, end=end, d=d, n=n, value=value):
                        self.assertEqual(value is None, n in found)
                        if value is None:
                            self.assertEqual(rows, [])
                        else:
                            self.assertIn(value, [row for row in rows if len(row) == min(map(len, rows))])
                        self.assertEqual(way_back(net, a, b, end, d, n), value)
                    size = 0 if value is None else len(value)
                    seen[size] = seen.get(size, 0) + 1
            self.assertEqual(repr_of(net), before)
        self.assertGreater(min(seen[0], seen[2], seen[3]), 5)

    def test_long_ways_back(self):
        # In the ring of eight, from g by h, a and so on there is no way back; from b to a there is one alone.
        for net in (ROUND, ROUND.with_link('d', 'e', 9, 9), ROUND.with_link('a', 'h', 20, 20)):
            for a, b, _, _ in net.links:
                for end, d, found in alternates(net, a, b):
                    for n in [n for n in neighbours(net, end) if n not in (a, b)]:
                        value = way_back(net, a, b, end, d, n)
                        self.assertEqual(value, None if n in found else rows_back(net, d, n, end)[0])
        self.assertEqual(way_back(SQUARE.with_link('a', 'd', 9, 9), 'c', 'd', 'c', 'd', 'b'), ('b', 'c'))

    def test_no_link(self):
        for more in (('c', 'd', 'b'), ('a', 'd', 'b'), (None, ['c'], {'b': 1}), ('c', 'd', 'd')):
            self.no_link(way_back, *more)

    def no_end(self, *triple):
        value = self.raised(NoEnd, way_back, SQUARE, 'c', 'd', *triple).value
        self.assertEqual([value.__class__, len(value)], [tuple, 3])
        for one, other in zip(value, triple):
            self.assertIs(one, other)

    def test_no_end(self):
        right = {(end, d, n) for end, d, _ in alternates(SQUARE, 'c', 'd') for n in neighbours(SQUARE, end)
                 if n not in ('c', 'd')}
        self.assertEqual(right, {('c', 'd', 'b'), ('d', 'a', 'a'), ('d', 'b', 'a'), ('d', 'c', 'a')})
        for end in FOUR + ('z', ''):
            for d in FOUR + ('z', ''):
                for n in FOUR + ('z', ''):
                    if (end, d, n) in right:
                        way_back(SQUARE, 'c', 'd', end, d, n)
                    else:
                        self.no_end(end, d, n)
        # The other end is a neighbour, but none to send to.
        self.no_end('c', 'd', 'd')
        self.no_end('d', 'c', 'c')
        for value in any_values():
            for triple in ((value, 'd', 'b'), ('c', value, 'b'), ('c', 'd', value), (value, value, value),
                           (['c'], value, 'b'), (value, ['d'], ['b'])):
                self.no_end(*triple)

    def test_results_passed_back(self):
        for end, d, found in alternates(SQUARE, 'c', 'd'):
            for n in found:
                self.assertIsNone(way_back(SQUARE, 'c', 'd', end, d, n))
            self.no_end(end, d, found)
            self.no_end(found, d, end)
        for value in (losers(SQUARE, 'c', 'd'), falls(SQUARE), alternates(SQUARE, 'c', 'd')):
            self.no_end('c', 'd', value)
            self.no_end(value, 'd', 'b')
            self.no_end('c', value[0], 'b')

    def test_by_name(self):
        self.assertEqual(way_back(neighbour='b', d='d', end='c', b='d', a='c', net=SQUARE), ('b', 'c'))


if __name__ == '__main__':
    unittest.main()
