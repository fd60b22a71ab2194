"""Section 7."""

import copy
import unittest
from itertools import permutations

from quietturns.errors import BadShift, NoRouter
from quietturns.nets import Net
from quietturns.shifts import free_range, point, points, shifted, stretch
from search import Shifts, tables_of
from support import GREAT, SQUARE, LinkCase, any_values, changed, full_net, great_net, repr_of, shortest_ways
from support import greater_square, links_of, some_nets

EXAMPLE = """
>>> from quietturns.nets import Net
>>> from quietturns.shifts import free_range, point, points, stretch
>>> net = Net(('a', 'b', 'c', 'd'), (('a', 'b', 1, 1), ('a', 'd', 5, 5), ('b', 'c', 1, 1), ('c', 'd', 1, 1)))
>>> [[point(net, 'c', 'd', router, 'd') for router in ('a', 'b', 'c')], points(net, 'c', 'd')]
[[2, 4, 6], (-6, -4, 2, 4, 6)]
>>> [stretch(net, 'c', 'd', 'd', ('a', 'b')), stretch(net, 'c', 'd', 'd', ('a', 'c')), free_range(net, 'c', 'd')]
[(2, 4), None, (0, 1)]
"""
# The same with 4 more for c and d: shifts from -4 to where the example has them from 0.
LONGER = SQUARE.with_link('c', 'd', 5, 5)
CHAIN = Net(('a', 'b', 'c'), (('a', 'b', 1, 1), ('b', 'c', 4, 2)))


def near(net, a, b):
    """The shifts at which links start or cease to stand, by the test's own tables, and those beside them."""
    shifts = Shifts(net, a, b)
    found = [t for t in shifts.range() if t > shifts.least and shifts.tables[t] != shifts.tables[t - 1]]
    return shifts, sorted({t for each in found for t in (each - 1, each)})


class Shifted(LinkCase):

    def test_both_lengths_are_greater(self):
        net = SQUARE.with_link('c', 'd', 3, 7)
        for t in (-2, -1, 0, 1, 2, 9999999999, GREAT):
            self.assertEqual(shifted(net, 'c', 'd', t), SQUARE.with_link('c', 'd', 3 + t, 7 + t))
        self.assertEqual(shifted(net, 'c', 'd', 0), net)
        self.assertEqual(shifted(net, 'a', 'b', 3).links[0], ('a', 'b', 4, 4))
        self.assertIs(shifted(net, 'a', 'b', 3).__class__, Net)

    def test_none_takes_the_link_out(self):
        for net, a, b in links_of(some_nets(30) + [full_net()]):
            self.assertEqual(shifted(net, a, b, None), net.without(a, b))

    def test_every_link_of_every_net(self):
        for net, a, b in links_of(some_nets(60) + [full_net(), great_net(1)]):
            least = 1 - min(net.length(a, b), net.length(b, a))
            before = repr_of(net)
            for t in (least, least + 1, 0, 1, 5):
                self.assertEqual(shifted(net, a, b, t), net.with_link(a, b, net.length(a, b) + t, net.length(b, a) + t))
            for t in (least - 1, least - 2, least - GREAT):
                self.assertEqual(self.raised(BadShift, shifted, net, a, b, t).value, t)
            self.assertEqual(repr_of(net), before)

    def test_the_least_shift_and_the_one_below_it(self):
        for there, back in ((3, 7), (7, 3), (3, 3), (3, GREAT)):
            net = SQUARE.with_link('c', 'd', there, back)
            self.assertEqual(shifted(net, 'c', 'd', -2).length('c', 'd'), there - 2)
            self.assertEqual(shifted(net, 'c', 'd', -2).length('d', 'c'), back - 2)
            self.assertEqual(self.raised(BadShift, shifted, net, 'c', 'd', -3).value, -3)

    def test_no_link(self):
        for t in (0, 1, None, -100, True, '1', [1]):
            self.no_link(shifted, t)

    def test_bad_shift(self):
        for value in any_values():
            if value is None or value.__class__ is int and value >= 0:
                self.assertIs(shifted(SQUARE, 'c', 'd', value).__class__, Net)
            else:
                before = copy.deepcopy(value)
                self.assertIs(self.raised(BadShift, shifted, SQUARE, 'c', 'd', value).value, value)
                self.assertEqual(repr_of(value), repr_of(before))

    def test_by_name(self):
        self.assertEqual(shifted(t=2, b='d', a='c', net=SQUARE), SQUARE.with_link('c', 'd', 3, 3))


class Point(LinkCase):

    def test_the_example(self):
        self.example(EXAMPLE, 5)

    def test_by_its_two_sums(self):
        for net, a, b in links_of(some_nets(50, seed=3) + [full_net(), great_net(2)]):
            rest, there, back = net.without(a, b), net.length(a, b), net.length(b, a)
            # Those of the great nets would be too many.
            far = {(x, y): distance_by_links(rest, x, y) for x in net.routers for y in net.routers}
            for router in net.routers:
                for d in net.routers:
                    sums = [before + length + after for before, length, after in
                            ((far[router, a], there, far[b, d]), (far[router, b], back, far[a, d]))
                            if before is not None and after is not None]
                    expected = None
                    if router != d and far[router, d] is not None and sums:
                        expected = far[router, d] - min(sums)
                    self.assertEqual(point(net, a, b, router, d), expected, (net.links, a, b, router, d))

    def test_by_all_ways(self):
        # Below the point all shortest ways go over the link, at it both kinds are shortest, above it none does.
        for net, a, b in links_of(some_nets(25, most_routers=4, most_links=5, seed=5)):
            least = 1 - min(net.length(a, b), net.length(b, a))
            for router in net.routers:
                for d in net.routers:
                    middle = point(net, a, b, router, d)
                    for t in range(least, least + 14):
                        over = goes_over(shifted(net, a, b, t), a, b, router, d)
                        if middle is not None:
                            expected = {t < middle, t <= middle}
                            self.assertEqual(over, expected, (net.links, a, b, router, d, t))
                        elif router != d and len(over) == 1:
                            self.assertEqual(over, goes_over(shifted(net, a, b, least), a, b, router, d))

    def test_none(self):
        for router in SQUARE.routers:
            self.assertIsNone(point(SQUARE, 'c', 'd', router, router))
        # Without the only link there is no way; and no way over a link of another part.
        for router, d in (('a', 'c'), ('c', 'a'), ('b', 'c'), ('c', 'b'), ('a', 'b'), ('b', 'a')):
            self.assertIsNone(point(CHAIN, 'b', 'c', router, d))
        net = Net(('a', 'b', 'c', 'd', 'e'), SQUARE.links)
        for d in 'abcd':
            self.assertIsNone(point(net, 'c', 'd', 'e', d))
            self.assertIsNone(point(net, 'c', 'd', d, 'e'))
        parts = Net(('a', 'b', 'c', 'd'), (('a', 'b', 1, 1), ('c', 'd', 1, 1)))
        for router in 'abcd':
            for d in 'abcd':
                self.assertIsNone(point(parts, 'c', 'd', router, d))

    def test_lengths_by_direction(self):
        net = Net(('a', 'b', 'c'), (('a', 'b', 2, 30), ('a', 'c', 100, 1000), ('b', 'c', 5, 70)))
        self.assertEqual(point(net, 'b', 'c', 'a', 'c'), 100 - (2 + 5))
        self.assertEqual(point(net, 'b', 'c', 'c', 'a'), 1000 - (70 + 30))
        self.assertEqual(point(net, 'b', 'c', 'b', 'c'), 130 - 5)
        self.assertEqual(point(net, 'b', 'c', 'c', 'b'), 1002 - 70)
        # The lesser sum, though its way goes from a over c to b and back to a.
        self.assertEqual(point(net, 'b', 'c', 'a', 'b'), 2 - (100 + 70))

    def test_one_link(self):
        pair = Net(('a', 'b'), (('a', 'b', 3, 4),))
        self.assertEqual([point(pair, 'a', 'b', x, y) for x in 'ab' for y in 'ab'], [None] * 4)
        self.assertEqual(points(pair, 'a', 'b'), ())
        self.assertEqual(free_range(pair, 'a', 'b'), (-2, None))

    def test_lengths_of_many_digits(self):
        for size in (10 ** 9, GREAT):
            net = greater_square(size)
            self.assertEqual([point(net, 'c', 'd', router, 'd') for router in 'abc'], [2 * size, 4 * size, 6 * size])
            self.assertEqual(points(net, 'c', 'd'), (-6 * size, -4 * size, 2 * size, 4 * size, 6 * size))
            self.assertEqual(stretch(net, 'c', 'd', 'd', ('a', 'b')), (2 * size, 4 * size))
            self.assertEqual(free_range(net, 'c', 'd'), (1 - size, 2 * size - 1))

    def test_no_link(self):
        for router, d in (('a', 'd'), ('a', 'a'), ('z', 'd'), (None, ['d'])):
            self.no_link(point, router, d)

    def test_no_router(self):
        for value in any_values():
            for name in SQUARE.routers:
                self.assertIs(self.raised(NoRouter, point, SQUARE, 'c', 'd', value, name).value, value)
                self.assertIs(self.raised(NoRouter, point, SQUARE, 'c', 'd', name, value).value, value)
            for other in any_values():
                self.assertIs(self.raised(NoRouter, point, SQUARE, 'c', 'd', value, other).value, value)
            self.assertIs(self.raised(NoRouter, point, SQUARE, 'c', 'd', value, value).value, value)

    def test_by_name(self):
        self.assertEqual(point(d='d', router='b', b='d', a='c', net=SQUARE), 4)
        self.assertEqual(points(b='d', a='c', net=SQUARE), (-6, -4, 2, 4, 6))


def distance_by_links(net, a, d):
    """The length of a shortest way, found link after link; None if there is none."""
    found = {a: 0}
    for _ in net.routers:
        for low, high, there, back in net.links:
            for one, other, length in ((low, high, there), (high, low, back)):
                if one in found:
                    found[other] = min(found.get(other, found[one] + length), found[one] + length)
    return found.get(d)


def goes_over(net, a, b, router, d):
    """For all shortest ways whether they go over the link, each answer once."""
    rows, _ = shortest_ways(net, router, d)
    return {(a, b) in zip(row, row[1:]) or (b, a) in zip(row, row[1:]) for row in rows}


class Points(LinkCase):

    def test_all_points_ascending_each_once(self):
        for net, a, b in links_of(some_nets(40, seed=6) + [full_net(), great_net(3)]):
            found = {point(net, a, b, router, d) for router in net.routers for d in net.routers} - {None}
            value = points(net, a, b)
            self.assertIs(value.__class__, tuple)
            self.assertEqual(value, tuple(sorted(found)))
            self.assertEqual(points(net, a, b), value)

    def test_none_at_all(self):
        self.assertEqual(points(CHAIN, 'b', 'c'), ())
        self.assertEqual(points(CHAIN, 'a', 'b'), ())

    def test_tables_change_at_points_alone(self):
        for net, a, b in links_of(some_nets(30, seed=7)):
            shifts, found = near(net, a, b)
            known = {t + by for t in points(net, a, b) for by in (-1, 0, 1)}
            self.assertTrue(set(found) <= known)

    def test_no_link(self):
        self.no_link(points)


class Stretch(LinkCase):

    def test_where_links_stand(self):
        # Up to the point of the router, from it on, always, or never.
        kinds = {}
        for net, a, b in links_of(some_nets(30, seed=8)):
            shifts = Shifts(net, a, b)
            for router in net.routers:
                for n in net.routers:
                    for d in net.routers:
                        stands = shifts.stands(router, n, d)
                        if {router, n} == {a, b} or len(stands) in (0, len(shifts.range())):
                            continue
                        number = point(net, a, b, router, d)
                        early = list(range(shifts.least, number + 1))
                        self.assertIn(stands, (early, list(range(number, shifts.most + 1))))
                        kinds[stands == early] = True
        self.assertEqual(len(kinds), 2)

    def test_all_rows_of_routers(self):
        rings = 0
        for net, a, b in links_of(some_nets(40, greatest=5, seed=9)) + [(SQUARE, 'c', 'd'), (LONGER, 'c', 'd')]:
            shifts = Shifts(net, a, b)
            for d in net.routers:
                for many in range(len(net.routers) + 1):
                    for ring in permutations(net.routers, many):
                        expected = shifts.stretch(d, ring)
                        self.assertEqual(stretch(net, a, b, d, ring), expected, (net.links, a, b, d, ring))
                        if expected is not None:
                            rings += 1
                            self.assertGreaterEqual(expected[1] - expected[0], 2)
        self.assertGreater(rings, 60)

    def test_a_ring_may_begin_anywhere(self):
        for ring in (('a', 'b'), ('b', 'a')):
            self.assertEqual(stretch(SQUARE, 'c', 'd', 'd', ring), (2, 4))
            self.assertEqual(stretch(LONGER, 'c', 'd', 'd', ring), (-2, 0))
        for ring in (('b', 'c'), ('c', 'b')):
            self.assertEqual(stretch(SQUARE, 'c', 'd', 'd', ring), (4, 6))
            self.assertEqual(stretch(SQUARE, 'c', 'd', 'c', ('a', 'b')), None)

    def test_no_rings(self):
        for ring in ((), ('a',), ('a', 'a'), ('a', 'b', 'a', 'b'), ('a', 'b', 'b'), ('a', 'c'), ('a', 'b', 'c'),
                     ('a', 'd'), ('c', 'd'), ('d', 'c'), ('b', 'e'), ('e', 'b'), ['a', 'b'], 'ab', {'a': 'b', 'b': 'a'},
                     ('a', ['b']), ('a', ('b',)), (('a', 'b'),), ('a', None), ('a', True), ('a', SQUARE), ('A', 'B')):
            self.assertIsNone(stretch(SQUARE, 'c', 'd', 'd', ring))

    def test_no_ring_has_the_destination(self):
        for net, a, b in links_of(some_nets(20, seed=10)):
            for d in net.routers:
                for n in net.routers:
                    self.assertIsNone(stretch(net, a, b, d, (d, n)))

    def test_no_ring_goes_over_the_link_itself(self):
        for net, a, b in links_of([SQUARE, LONGER, full_net()]):
            for d in net.routers:
                self.assertIsNone(stretch(net, a, b, d, (a, b)))
                self.assertIsNone(stretch(net, a, b, d, (b, a)))

    def test_links_that_stood_only_below_the_least_shift_are_in_no_ring(self):
        # 4 more from c to d alone: to have 0 at the example's least shift, lengths from d to c would be below 1.
        net = SQUARE.with_link('c', 'd', 5, 1)
        self.assertEqual([point(net, 'c', 'd', router, 'd') for router in 'abc'], [-2, 0, 2])
        self.assertIsNone(stretch(net, 'c', 'd', 'd', ('a', 'b')))
        self.assertEqual(stretch(net, 'c', 'd', 'd', ('b', 'c')), (0, 2))

    def test_any_values(self):
        for value in any_values():
            before = copy.deepcopy(value)
            expected = (2, 4) if value == ('a', 'b') else None
            self.assertEqual(stretch(SQUARE, 'c', 'd', 'd', value), expected)
            self.assertIsNone(stretch(SQUARE, 'c', 'd', 'd', ('a', value)))
            self.assertIsNone(stretch(SQUARE, 'c', 'd', 'd', (value, 'b')))
            self.assertIsNone(stretch(SQUARE, 'c', 'd', 'd', ('a', 'b', value)))
            self.assertEqual(repr_of(value), repr_of(before))
        shifts = Shifts(SQUARE, 'c', 'd')
        for value in changed(('a', 'b')):
            self.assertEqual(stretch(SQUARE, 'c', 'd', 'd', value), shifts.stretch('d', value))
        self.assertIsNone(stretch(SQUARE, 'c', 'd', 'd', ('a', 'b') * 20000))

    def test_errors(self):
        for d, ring in (('d', ('a', 'b')), ('z', ('a', 'b')), (None, None), (['d'], [])):
            self.no_link(stretch, d, ring)
        for value in any_values():
            for ring in (('a', 'b'), (), None, [], 'z', ('z', 'y')):
                self.assertIs(self.raised(NoRouter, stretch, SQUARE, 'c', 'd', value, ring).value, value)

    def test_by_name(self):
        self.assertEqual(stretch(ring=('a', 'b'), d='d', b='d', a='c', net=SQUARE), (2, 4))

    def test_results_are_pairs_of_integers(self):
        value = stretch(SQUARE, 'c', 'd', 'd', ('a', 'b'))
        self.assertEqual([value.__class__, value[0].__class__, value[1].__class__], [tuple, int, int])


def has_own(net, a, b, t):
    """Whether all tables at this shift are the net's own."""
    return tables_of(net.with_link(a, b, net.length(a, b) + t, net.length(b, a) + t)) == tables_of(net)


class FreeRange(LinkCase):

    def test_against_all_tables(self):
        kinds = {}
        for net, a, b in links_of(some_nets(80, greatest=5, seed=11)) + [(SQUARE, 'c', 'd'), (LONGER, 'c', 'd')]:
            shifts = Shifts(net, a, b)
            least = greatest = 0
            while least > shifts.least and shifts.tables[least - 1] == shifts.tables[0]:
                least -= 1
            while greatest < shifts.most and shifts.tables[greatest + 1] == shifts.tables[0]:
                greatest += 1
            expected = (least, None if greatest == shifts.most else greatest)
            self.assertEqual(free_range(net, a, b), expected, (net.links, a, b))
            kinds[least == shifts.least, least == 0, expected[1] is None, greatest == 0] = True
        self.assertGreater(len(kinds), 8)

    def test_at_a_point(self):
        self.assertEqual(free_range(SQUARE, 'c', 'd'), (0, 1))
        for more, expected in ((1, (-1, 0)), (2, (0, 0)), (3, (0, 0)), (4, (0, 0)), (5, (0, 0)), (6, (0, 0)),
                               (7, (0, None)), (9, (-2, None))):
            self.assertEqual(free_range(shifted(SQUARE, 'c', 'd', more), 'c', 'd'), expected)

    def test_between_points(self):
        net = Net(('a', 'b', 'c'), (('a', 'b', 10, 10), ('a', 'c', 100, 100), ('b', 'c', 20, 20)))
        self.assertEqual(points(net, 'b', 'c'), (-110, 70, 90))
        self.assertEqual(free_range(net, 'b', 'c'), (-19, 69))
        self.assertEqual(free_range(shifted(net, 'b', 'c', 80), 'b', 'c'), (-9, 9))
        self.assertEqual(free_range(shifted(net, 'b', 'c', 100), 'b', 'c'), (-9, None))
        self.assertEqual(free_range(shifted(net, 'b', 'c', 70), 'b', 'c'), (0, 0))

    def test_the_only_link(self):
        self.assertEqual(free_range(CHAIN, 'b', 'c'), (-1, None))
        self.assertEqual(free_range(CHAIN, 'a', 'b'), (0, None))

    def test_eight_routers_and_sixteen_links(self):
        for net in (full_net(), great_net(4), great_net(5, 30)):
            for a, b, there, back in net.links:
                least, greatest = free_range(net, a, b)
                self.assertTrue(has_own(net, a, b, least))
                self.assertTrue(least == 1 - min(there, back) or not has_own(net, a, b, least - 1))
                if greatest is None:
                    self.assertTrue(has_own(net, a, b, GREAT))
                else:
                    self.assertTrue(has_own(net, a, b, greatest))
                    self.assertFalse(has_own(net, a, b, greatest + 1))
                for t in points(net, a, b):
                    if least <= t and (greatest is None or t <= greatest):
                        self.assertTrue(has_own(net, a, b, t))

    def test_no_link(self):
        self.no_link(free_range)

    def test_by_name(self):
        self.assertEqual(free_range(b='d', a='c', net=SQUARE), (0, 1))


if __name__ == '__main__':
    unittest.main()
