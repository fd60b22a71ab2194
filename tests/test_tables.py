"""Section 5."""

import doctest
import unittest

from quietturns.errors import NoRouter
from quietturns.nets import Net
from quietturns.tables import alike, distance, nexts, ways
from support import EIGHT, SQUARE, any_values, full_net, shortest_ways, some_nets

EXAMPLE = """
>>> from quietturns.nets import Net
>>> from quietturns.tables import distance, nexts, ways
>>> net = Net(('a', 'b', 'c', 'd'), (('a', 'b', 1, 1), ('a', 'd', 5, 5), ('b', 'c', 1, 1), ('c', 'd', 1, 1)))
>>> [distance(net, 'a', 'd'), nexts(net, 'a', 'd'), ways(net, 'a', 'd'), nexts(net.with_link('c', 'd', 3, 3), 'a', 'd')]
[3, ('b',), 1, ('b', 'd')]
"""
GREAT = 10 ** 40

# Three routers side by side, and three again behind them: nine shortest ways from a to h.
LAYERS = Net(EIGHT, tuple(sorted(
    [('a', n, 1, 1) for n in 'bcd'] + [(m, n, 1, 1) for m in 'bcd' for n in 'efg'] + [(n, 'h', 1, 1) for n in 'efg'])))
# Two parts without a way between them.
PARTS = Net(('a', 'b', 'c', 'd', 'e'), (('a', 'b', 1, 2), ('c', 'd', 3, 4)))


def tables(net):
    """All next routers, found by trying all ways."""
    found = {}
    for a in net.routers:
        for d in net.routers:
            rows, _ = shortest_ways(net, a, d)
            found[a, d] = tuple(sorted({row[1] for row in rows if len(row) > 1}))
    return found


class Ways(unittest.TestCase):

    def test_the_example(self):
        test = doctest.DocTestParser().get_doctest(EXAMPLE, {}, 'section 5', None, 0)
        self.assertEqual(len(test.examples), 4)
        self.assertEqual(doctest.DocTestRunner().run(test).failed, 0)

    def test_against_all_ways(self):
        for net in some_nets(150):
            for a in net.routers:
                for d in net.routers:
                    rows, length = shortest_ways(net, a, d)
                    with self.subTest(links=net.links, a=a, d=d):
                        self.assertEqual(distance(net, a, d), length)
                        self.assertEqual(ways(net, a, d), len(rows))
                        self.assertEqual(nexts(net, a, d), tuple(sorted({row[1] for row in rows if a != d})))

    def test_a_router_and_itself(self):
        for net in (SQUARE, LAYERS, PARTS, full_net()):
            for a in net.routers:
                self.assertEqual([distance(net, a, a), ways(net, a, a), nexts(net, a, a)], [0, 1, ()])

    def test_without_a_way(self):
        for a, d in (('a', 'c'), ('c', 'a'), ('b', 'd'), ('e', 'a'), ('a', 'e'), ('e', 'd')):
            self.assertEqual([distance(PARTS, a, d), ways(PARTS, a, d), nexts(PARTS, a, d)], [None, 0, ()])

    def test_lengths_by_direction(self):
        self.assertEqual([distance(PARTS, 'a', 'b'), distance(PARTS, 'b', 'a')], [1, 2])
        net = Net(('a', 'b', 'c'), (('a', 'b', 1, 9), ('a', 'c', 9, 1), ('b', 'c', 1, 9)))
        self.assertEqual([distance(net, 'a', 'c'), nexts(net, 'a', 'c')], [2, ('b',)])
        self.assertEqual([distance(net, 'c', 'a'), nexts(net, 'c', 'a')], [1, ('a',)])
        self.assertEqual([distance(net, 'b', 'a'), nexts(net, 'b', 'a')], [2, ('c',)])

    def test_several_shortest_ways(self):
        self.assertEqual(distance(LAYERS, 'a', 'h'), 3)
        self.assertEqual(ways(LAYERS, 'a', 'h'), 9)
        self.assertEqual(ways(LAYERS, 'h', 'a'), 9)
        self.assertEqual(ways(LAYERS, 'b', 'h'), 3)
        self.assertEqual(nexts(LAYERS, 'a', 'h'), ('b', 'c', 'd'))
        self.assertEqual(nexts(LAYERS, 'b', 'c'), ('a', 'e', 'f', 'g'))
        self.assertEqual(nexts(LAYERS.with_link('b', 'e', 2, 2), 'b', 'c'), ('a', 'f', 'g'))

    def test_several_shortest_ways_of_unlike_numbers_of_links(self):
        net = SQUARE.with_link('c', 'd', 3, 3)
        self.assertEqual([distance(net, 'a', 'd'), ways(net, 'a', 'd'), nexts(net, 'a', 'd')], [5, 2, ('b', 'd')])

    def test_a_way_over_all_eight_routers(self):
        chain = Net(EIGHT, tuple((a, b, 10 ** at, 2) for at, (a, b) in enumerate(zip(EIGHT, EIGHT[1:]))))
        for net in (chain, chain.with_link('a', 'h', 1111112, 15)):
            self.assertEqual([distance(net, 'a', 'h'), nexts(net, 'a', 'h')], [1111111, ('b',)])
            self.assertEqual([distance(net, 'h', 'a'), nexts(net, 'h', 'a')], [14, ('g',)])
            self.assertEqual([ways(net, 'a', 'h'), ways(net, 'h', 'a')], [1, 1])

    def test_a_way_whose_names_do_not_ascend(self):
        net = Net(EIGHT, (('a', 'd', 1, 1), ('a', 'h', 1, 1), ('b', 'd', 1, 1), ('b', 'f', 1, 1), ('c', 'f', 1, 1),
                          ('c', 'g', 1, 1), ('e', 'h', 1, 1)))
        self.assertEqual([distance(net, 'e', 'g'), distance(net, 'g', 'e')], [7, 7])
        self.assertEqual([nexts(net, 'd', 'g'), nexts(net, 'd', 'e')], [('b',), ('a',)])

    def test_lengths_of_many_digits(self):
        links = (('a', 'b', GREAT, GREAT), ('a', 'c', 2 * GREAT, 2 * GREAT + 1), ('b', 'c', GREAT, GREAT))
        net = Net(('a', 'b', 'c'), links)
        self.assertEqual([distance(net, 'a', 'c'), ways(net, 'a', 'c'), nexts(net, 'a', 'c')],
                         [2 * GREAT, 2, ('b', 'c')])
        self.assertEqual([distance(net, 'c', 'a'), ways(net, 'c', 'a'), nexts(net, 'c', 'a')], [2 * GREAT, 1, ('b',)])

    def test_by_name(self):
        net = SQUARE.with_link('c', 'd', 3, 4)
        self.assertEqual(distance(d='d', a='a', net=net), 5)
        self.assertEqual(distance(d='a', a='d', net=net), 5)
        self.assertEqual(ways(d='d', a='a', net=net), 2)
        self.assertEqual(ways(d='a', a='d', net=net), 1)
        self.assertEqual(nexts(d='d', a='a', net=net), ('b', 'd'))
        self.assertEqual(nexts(d='a', a='d', net=net), ('a',))

    def test_no_router(self):
        for call in (distance, ways, nexts):
            for value in any_values():
                for name in SQUARE.routers:
                    self.no_router(call, value, name, value)
                    self.no_router(call, name, value, value)
                for other in any_values():
                    self.no_router(call, value, other, value)
                self.no_router(call, value, value, value)

    def no_router(self, call, a, d, value):
        with self.assertRaises(NoRouter) as caught:
            call(SQUARE, a, d)
        self.assertIs(caught.exception.__class__, NoRouter)
        self.assertIs(caught.exception.value, value)

    def test_results_are_tuples_and_integers(self):
        self.assertIs(nexts(SQUARE, 'a', 'd').__class__, tuple)
        self.assertIs(nexts(SQUARE, 'a', 'a').__class__, tuple)
        self.assertIs(distance(SQUARE, 'a', 'a').__class__, int)
        self.assertIs(ways(SQUARE, 'a', 'a').__class__, int)
        self.assertIs(ways(PARTS, 'a', 'e').__class__, int)

    def test_nets_stay_as_they_were_and_equal_calls_return_equal_results(self):
        for net in (SQUARE, LAYERS, PARTS):
            before = (net.routers, net.links)
            for call in (distance, ways, nexts):
                results = [[call(net, a, d) for a in net.routers for d in net.routers] for _ in range(2)]
                self.assertEqual(results[0], results[1])
            self.assertIsNone(alike(net, net))
            self.assertEqual((net.routers, net.links), before)


class Alike(unittest.TestCase):

    def test_none_if_all_next_routers_are_the_same(self):
        self.assertIsNone(alike(SQUARE, SQUARE))
        self.assertIsNone(alike(SQUARE, SQUARE.with_link('c', 'd', 2, 2)))
        self.assertIsNone(alike(LAYERS, Net(EIGHT, tuple((a, b, GREAT, GREAT) for a, b, _, _ in LAYERS.links))))
        self.assertIsNone(alike(Net(('a', 'b'), ()), Net(('a', 'b'), ())))

    def test_none_though_the_links_are_not_the_same(self):
        net = Net(('a', 'b', 'c'), (('a', 'b', 1, 1), ('b', 'c', 1, 1)))
        self.assertIsNone(alike(net, net.with_link('a', 'c', 3, 3)))

    def test_the_least_pair(self):
        self.assertEqual(alike(SQUARE, SQUARE.with_link('c', 'd', 3, 3)), ('a', 'd'))
        self.assertEqual(alike(SQUARE, SQUARE.without('c', 'd')), ('a', 'd'))
        self.assertEqual(alike(PARTS, PARTS.without('c', 'd')), ('c', 'd'))
        self.assertEqual(alike(PARTS.with_link('c', 'e', 1, 1), PARTS), ('c', 'e'))

    def test_only_from_one_direction(self):
        net = Net(('a', 'b', 'c'), (('a', 'b', 1, 1), ('a', 'c', 2, 3), ('b', 'c', 2, 1)))
        self.assertEqual(alike(net, net.with_link('a', 'c', 2, 1)), ('c', 'a'))
        self.assertEqual(alike(net, net.with_link('a', 'c', 2, 2)), ('c', 'a'))

    def test_other_routers(self):
        for old, new in ((Net(('a', 'b'), ()), Net(('a', 'c'), ())), (Net(('a', 'b'), ()), Net(('a', 'b', 'c'), ())),
                         (Net(('a', 'b', 'c'), ()), Net(('a', 'b'), ())),
                         (SQUARE, LAYERS), (LAYERS, SQUARE), (SQUARE, PARTS)):
            self.assertEqual(alike(old, new), ())

    def test_by_name(self):
        self.assertEqual(alike(new=SQUARE, old=SQUARE.with_link('c', 'd', 3, 3)), ('a', 'd'))

    def test_against_all_tables(self):
        nets = [net for net in some_nets(220, most_routers=4, greatest=3, seed=2) if len(net.routers) == 4]
        found = {}
        for old, new in zip(nets, nets[1:]):
            for other in (new, *[old.with_link(a, b, there + 1, back) for a, b, there, back in old.links]):
                theirs = tables(other)
                unlike = [pair for pair, n in tables(old).items() if n != theirs[pair]]
                expected = min(unlike, default=None)
                with self.subTest(old=old.links, new=other.links):
                    self.assertEqual(alike(old, other), expected)
                found[expected] = True
        self.assertGreater(len(found), 6)


if __name__ == '__main__':
    unittest.main()
