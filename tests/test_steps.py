"""Section 8, and G2."""

import copy
import unittest

from quietturns.errors import BadShift, NoLink
from quietturns.judging import judged
from quietturns.nets import Net
from quietturns.shifts import point, points, shifted, stretch
from quietturns.steps import shows_steps, steps
from search import Shifts, can_turn, tables_of
from support import EIGHT, GREAT, SQUARE, Case, any_values, changed, full_net, great_net, nested, replaced, repr_of
from support import greater_square, some_nets

EXAMPLE = """
>>> from quietturns.nets import Net
>>> from quietturns.steps import shows_steps, steps
>>> net = Net(('a', 'b', 'c', 'd'), (('a', 'b', 1, 1), ('a', 'd', 5, 5), ('b', 'c', 1, 1), ('c', 'd', 1, 1)))
>>> found = steps(net, 'c', 'd', 0, None)
>>> [found[1], [stretch for d, ring, stretch in found[2]], steps(net, 'c', 'd', 5, 0)[1]]
[(3, 5), [(2, 4), (4, 6)], (3,)]
>>> shows_steps(net, 'c', 'd', 0, None, ('steps', (3, 5), (('d', ('a', 'b'), (2, 4)), ('d', ('c', 'b'), (4, 6)))))
True
"""
# The same with 4 more for c and d: shifts from -4 to where the example has them from 0.
LONGER = SQUARE.with_link('c', 'd', 5, 5)
AB, CB = ('d', ('a', 'b'), (2, 4)), ('d', ('c', 'b'), (4, 6))
FOUND = ('steps', (3, 5), (AB, CB))
# Stretches from -1 to 3 and from 2 to 7: they overlap, but share no integer strictly within.
OVER = (Net(('a', 'b', 'c', 'd'), (('a', 'c', 2, 2), ('a', 'd', 1, 3), ('b', 'c', 2, 3), ('b', 'd', 3, 2))), 'a', 'c')
# Four stops with rings for two destinations, and three for three.
FOUR = (Net(('a', 'b', 'c', 'd', 'e', 'f'), (
    ('a', 'e', 11, 3), ('a', 'f', 3, 12), ('b', 'c', 4, 8), ('b', 'd', 2, 1), ('b', 'e', 8, 7), ('c', 'f', 5, 1),
    ('d', 'e', 1, 5), ('d', 'f', 10, 11))), 'a', 'e')
THREE = (Net(('a', 'b', 'c', 'd', 'e', 'f'), (
    ('a', 'd', 1, 1), ('a', 'f', 2, 2), ('b', 'f', 3, 2), ('c', 'd', 2, 3), ('c', 'e', 3, 3), ('c', 'f', 2, 1),
    ('e', 'f', 2, 3))), 'a', 'f')
# A ring of links round eight routers, of which one is longer and longer: packets for its end go the other way.
ROUND = Net(EIGHT, tuple(sorted([(a, b, 1, 1) for a, b in zip(EIGHT, EIGHT[1:])] + [('a', 'h', 20, 20)])))


def ends_of(shifts):
    """Some pairs of a start and a goal, from the least shift on, up and down, with and without the link."""
    least = shifts.least
    ends = [(least, None), (least + 1, None), (0, None), (3, None), (least, least + 3), (least, least + 8),
            (least + 1, least + 6), (least, least + 1)]
    return ends + [(goal, start) for start, goal in ends]


class StepsCase(Case):

    def shows(self, net, a, b, start, goal, value, expected):
        self.tells(lambda each: shows_steps(net, a, b, start, goal, each), value, expected)


class Steps(StepsCase):

    def right(self, shifts, start, goal):
        """Expects steps to be quiet and as few as a search of all steps finds, and returns them."""
        net, a, b = shifts.net, shifts.a, shifts.b
        before, value, fewest = repr_of(net), steps(net, a, b, start, goal), shifts.fewest(start, goal)
        with self.subTest(links=net.links, a=a, b=b, start=start, goal=goal, value=value):
            self.assertEqual(len(value[1]), fewest)
            self.assertTrue(shifts.fits_steps(start, goal, value, fewest))
            self.assertIs(shows_steps(net, a, b, start, goal, value), True)
            self.assertEqual(steps(net, a, b, start, goal), value)
            self.assertEqual(repr_of(net), before)
        return value

    def test_the_example(self):
        self.example(EXAMPLE, 6)

    def test_against_all_steps(self):
        found = {}
        nets = [(net, link[0], link[1]) for net in some_nets(70, seed=12) for link in net.links[:3]]
        for net, a, b in nets + [OVER, THREE, (SQUARE, 'c', 'd'), (LONGER, 'c', 'd'), (SQUARE, 'a', 'b')]:
            shifts = Shifts(net, a, b)
            for start, goal in ends_of(shifts):
                many = len(self.right(shifts, start, goal)[1])
                found[many] = found.get(many, 0) + 1
        self.assertGreater(min(found[many] for many in (0, 1, 2)), 10)

    def test_between_all_shifts(self):
        for net, a, b in ((SQUARE, 'c', 'd'), OVER):
            shifts = Shifts(net, a, b)
            ends = [*range(shifts.least, 9), None]
            for start in ends:
                for goal in ends:
                    if start != goal:
                        self.right(shifts, start, goal)

    def test_many_stops(self):
        value = self.right(Shifts(*FOUR), -2, None)
        self.assertEqual([len(value[1]), len(value[2])], [4, 4])
        back = self.right(Shifts(*FOUR), None, -2)
        self.assertEqual([list(back[1]), len(back[2])], [sorted(back[1], reverse=True), 4])
        self.assertEqual(len(self.right(Shifts(*THREE), -1, None)[1]), 3)

    def test_none_as_start_and_as_goal(self):
        self.assertEqual(steps(SQUARE, 'c', 'd', 0, None)[1], (3, 5))
        self.assertEqual(steps(SQUARE, 'c', 'd', None, 0)[1], (5, 3))
        self.assertEqual([span for _, _, span in steps(SQUARE, 'c', 'd', None, 0)[2]], [(2, 4), (4, 6)])
        self.assertEqual(steps(SQUARE, 'c', 'd', None, 3)[1], (5,))
        self.assertEqual(steps(SQUARE, 'c', 'd', 3, None)[1], (5,))
        self.assertEqual(steps(SQUARE, 'c', 'd', 5, None), ('steps', (), ()))
        self.assertEqual(steps(SQUARE, 'c', 'd', None, 5), ('steps', (), ()))
        self.assertEqual(steps(SQUARE, 'c', 'd', GREAT, None), ('steps', (), ()))
        self.assertEqual(steps(SQUARE, 'c', 'd', None, GREAT), ('steps', (), ()))

    def test_stretches_that_begin_or_end_at_start_or_goal(self):
        for start, goal, stops in ((2, 4, (3,)), (2, 3, ()), (3, 4, ()), (1, 3, ()), (4, 6, (5,)), (4, 5, ()),
                                   (5, 6, ()), (2, 6, (3, 5)), (3, 6, (5,)), (2, 5, (3,)), (6, 7, ()),
                                   (0, 3, ()), (0, 4, (3,))):
            self.assertEqual(steps(SQUARE, 'c', 'd', start, goal)[1], stops)
            self.assertEqual(steps(SQUARE, 'c', 'd', goal, start)[1], stops[::-1])
            spans = [(stop - 1, stop + 1) for stop in stops]
            self.assertEqual([span for _, _, span in steps(SQUARE, 'c', 'd', start, goal)[2]], spans)

    def test_stretches_that_overlap_without_a_shared_stop(self):
        shifts = Shifts(*OVER)
        self.assertEqual(len(self.right(shifts, -1, None)[1]), 2)
        value = ('steps', (2, 6), (('c', ('a', 'd'), (-1, 3)), ('a', ('b', 'c'), (2, 7))))
        self.assertTrue(shifts.fits_steps(-1, None, value, 2))
        self.shows(*OVER, -1, None, value, True)
        self.shows(*OVER, None, -1, ('steps', (6, 2), value[2]), True)
        self.shows(*OVER, -1, None, ('steps', (2, 6), value[2][::-1]), False)

    def test_one_stop_for_several_rings(self):
        # Rings that share an integer need one stop alone.
        for net, a, b in (FOUR, THREE):
            shifts = Shifts(net, a, b)
            spans = [span for _, _, span in shifts.rings()]
            self.assertGreater(len(spans), shifts.fewest(shifts.least, None))
            self.right(shifts, shifts.least, None)

    def test_no_stops(self):
        for net in some_nets(30, seed=13) + [full_net()]:
            for a, b, there, back in net.links:
                for t in (1 - min(there, back), 0, 3, 20):
                    self.assertEqual(steps(net, a, b, t, t + 1), ('steps', (), ()))
                    self.assertEqual(steps(net, a, b, t + 1, t), ('steps', (), ()))
        self.assertEqual(steps(SQUARE, 'a', 'd', 0, None), ('steps', (), ()))
        self.assertEqual(steps(SQUARE, 'a', 'b', 0, 3), ('steps', (), ()))

    def test_a_link_that_parts_the_net(self):
        # Packets are lost without it, but this is no matter of steps.
        chain = Net(('a', 'b', 'c'), (('a', 'b', 1, 1), ('b', 'c', 1, 1)))
        for start, goal in ((0, None), (None, 0), (7, None), (0, 9)):
            self.assertEqual(steps(chain, 'b', 'c', start, goal), ('steps', (), ()))
            self.shows(chain, 'b', 'c', start, goal, ('steps', (), ()), True)

    def test_steps_by_one_are_quiet(self):
        for net in some_nets(40, seed=14) + [SQUARE, full_net(), great_net(6, 6)]:
            for a, b, there, back in net.links[:6]:
                least = 1 - min(there, back)
                for t in [*range(least, least + 12), *[t for t in points(net, a, b) if t >= least][:6]]:
                    self.assertEqual(judged(shifted(net, a, b, t), shifted(net, a, b, t + 1))[0], 'quiet')
                    self.assertEqual(judged(shifted(net, a, b, t + 1), shifted(net, a, b, t))[0], 'quiet')

    def test_lengths_of_many_digits(self):
        for size in (10 ** 9, GREAT):
            net = greater_square(size)
            for start, goal in ((0, None), (None, 0), (1 - size, 6 * size), (6 * size, 0)):
                value = steps(net, 'c', 'd', start, goal)
                self.assertEqual([len(value[1]), [span for _, _, span in value[2]]],
                                 [2, [(2 * size, 4 * size), (4 * size, 6 * size)]])
                self.shows(net, 'c', 'd', start, goal, value, True)
                for first in (2 * size, 2 * size + 1, 3 * size, 4 * size - 1, 4 * size):
                    for second in (4 * size, 4 * size + 1, 6 * size - 1, 6 * size):
                        right = 2 * size < first < 4 * size < second < 6 * size
                        up, down = ('steps', (first, second), value[2]), ('steps', (second, first), value[2])
                        self.shows(net, 'c', 'd', start, goal, up, right and start in (0, 1 - size))
                        self.shows(net, 'c', 'd', start, goal, down, right and start in (None, 6 * size))

    def test_eight_routers_and_sixteen_links(self):
        most = 0
        for net in [great_net(seed, greatest) for seed in range(8) for greatest in (12, 10 ** 9)] + [full_net()]:
            for a, b, there, back in net.links[:4]:
                for start, goal in ((1 - min(there, back), None), (None, 0)):
                    value = steps(net, a, b, start, goal)
                    most = max(most, len(value[1]))
                    self.fits(net, a, b, start, goal, value)
                    self.shows(net, a, b, start, goal, value, True)
        self.assertGreater(most, 1)

    def fits(self, net, a, b, start, goal, value):
        """Expects right steps, by tables at the stops and by points, without a search of all."""
        word, stops, demands = value
        row = [start, *stops, goal]
        self.assertEqual([word, len(stops)], ['steps', len(demands)])
        tables = [tables_of(shifted(net, a, b, t)) for t in row]
        for pair in zip(tables, tables[1:]):
            self.assertFalse(can_turn(*pair, net.routers))
        spans = [span for _, _, span in demands]
        self.assertEqual(spans, sorted(spans))
        for one, other in zip(spans, spans[1:]):
            self.assertLessEqual(one[1] - 1, other[0])
        for d, ring, span in demands:
            ends = [tables_of(shifted(net, a, b, t)) for t in span]
            for at, n in enumerate(ring):
                self.assertTrue(n in ends[0][ring[at - 1], d] or n in ends[1][ring[at - 1], d])
                self.assertTrue(span[0] <= point(net, a, b, ring[at - 1], d) <= span[1])

    def test_a_ring_of_eight(self):
        for a, b in (('a', 'h'), ('d', 'e')):
            value = steps(ROUND, a, b, 0, None)
            self.fits(ROUND, a, b, 0, None, value)
            self.shows(ROUND, a, b, 0, None, value, True)
        self.assertGreater(len(steps(ROUND, 'd', 'e', 0, None)[1]), 2)

    def test_by_name(self):
        self.assertEqual(steps(goal=0, start=5, b='d', a='c', net=SQUARE)[1], (3,))
        self.assertIs(shows_steps(value=FOUND, goal=None, start=0, b='d', a='c', net=SQUARE), True)

    def test_kinds_of_values(self):
        word, stops, demands = steps(SQUARE, 'c', 'd', 0, None)
        self.assertEqual([stops.__class__, demands.__class__], [tuple, tuple])
        for value in demands:
            self.assertEqual([value.__class__, len(value)], [tuple, 3])
            self.assertEqual([value[1].__class__, value[2].__class__], [tuple, tuple])
            self.assertEqual(stretch(SQUARE, 'c', 'd', value[0], value[1]), value[2])


class Errors(StepsCase):

    def both(self, kind, *passed):
        """The values of the errors of steps and of shows_steps, which are the same."""
        found = [self.raised(kind, steps, *passed).value]
        for value in (FOUND, None, ['steps'], ('steps', (), ())):
            found.append(self.raised(kind, shows_steps, *passed, value).value)
        return found

    def test_no_link(self):
        for start, goal in ((0, None), (0, 0), (None, None), (-5, True), ('x', 3), ([1], {1: 2})):
            for a, b in (('d', 'c'), ('a', 'c'), ('c', 'c'), ('z', 'd'), (None, 'd'), ('c', ['d']), (('c', 'd'), 'd')):
                for value in self.both(NoLink, SQUARE, a, b, start, goal):
                    self.pair_of(value, a, b)
        for value in any_values():
            for found in self.both(NoLink, SQUARE, value, 'd', 0, None):
                self.pair_of(found, value, 'd')
            for found in self.both(NoLink, SQUARE, 'c', value, 0, None):
                self.pair_of(found, 'c', value)

    def test_bad_shift(self):
        for value in any_values():
            if value is None or value.__class__ is int and value >= 0:
                continue
            before = copy.deepcopy(value)
            for other in (0, 5, None):
                for found in self.both(BadShift, SQUARE, 'c', 'd', value, other):
                    self.assertIs(found, value)
                for found in self.both(BadShift, SQUARE, 'c', 'd', other, value):
                    self.assertIs(found, value)
            for other in (-7, value):
                for found in self.both(BadShift, SQUARE, 'c', 'd', value, other):
                    self.assertIs(found, value)
            self.assertEqual(repr_of(value), repr_of(before))

    def test_start_is_named_ahead_of_goal(self):
        for start, goal, value in ((-1, -2, -1), (0, -2, -2), (None, -2, -2), (-1, 0, -1), (-1, -1, -1),
                                   (True, 1, True), (1, True, True), ('x', 'y', 'x'), (-3, None, -3)):
            for found in self.both(BadShift, SQUARE, 'c', 'd', start, goal):
                self.assertIs(found, value) if value.__class__ is bool else self.assertEqual(found, value)

    def test_both_the_same(self):
        for t in (None, 0, 1, 3, 1000, GREAT):
            for found in self.both(BadShift, SQUARE, 'c', 'd', t, t):
                self.assertEqual(found, t)
        for found in self.both(BadShift, LONGER, 'c', 'd', -4, -4):
            self.assertEqual(found, -4)

    def test_the_least_shift_and_the_one_below_it(self):
        for ends in ((-4, None), (None, -4), (-4, 0), (0, -4)):
            self.assertIs(shows_steps(LONGER, 'c', 'd', *ends, steps(LONGER, 'c', 'd', *ends)), True)
        for ends in ((-5, None), (None, -5), (-5, 0), (0, -5), (-5, -5), (-5, -6)):
            for found in self.both(BadShift, LONGER, 'c', 'd', *ends):
                self.assertEqual(found, -5)
        uneven = SQUARE.with_link('c', 'd', 9, 3)
        self.assertEqual(self.both(BadShift, uneven, 'c', 'd', -3, None), [-3] * 5)
        self.assertEqual(steps(uneven, 'c', 'd', -2, 4)[0], 'steps')


class Showing(StepsCase):

    def test_changed_results(self):
        seen = {True: 0, False: 0}
        for net, a, b, ends in ((SQUARE, 'c', 'd', ((0, None), (None, 0), (2, 4), (5, 0), (6, None))),
                                (LONGER, 'c', 'd', ((-4, None), (2, -4), (-1, 1))), (*OVER, ((-1, None), (7, -1))),
                                (*FOUR, ((-2, None),)), (*THREE, ((None, -1),))):
            shifts = Shifts(net, a, b)
            for start, goal in ends:
                fewest = shifts.fewest(start, goal)
                for value in changed(steps(net, a, b, start, goal)):
                    fits = shifts.fits_steps(start, goal, value, fewest)
                    seen[fits] += 1
                    self.shows(net, a, b, start, goal, value, fits)
        self.assertGreater(min(seen.values()), 20)

    def test_all_pairs_of_stops(self):
        for net, a, b, start, goal in ((SQUARE, 'c', 'd', 0, None), (SQUARE, 'c', 'd', 6, 1), (*OVER, -1, None),
                                       (*OVER, 7, -1)):
            shifts = Shifts(net, a, b)
            fewest, demands = shifts.fewest(start, goal), steps(net, a, b, start, goal)[2]
            self.assertEqual(fewest, 2)
            for first in range(-2, 12):
                for second in range(-2, 12):
                    value = ('steps', (first, second), demands)
                    self.shows(net, a, b, start, goal, value, shifts.fits_steps(start, goal, value, fewest))

    def test_all_pairs_of_rings(self):
        for net, a, b, start, goal in ((SQUARE, 'c', 'd', 0, None), (SQUARE, 'c', 'd', 6, 1), (*OVER, -1, None),
                                       (*OVER, 7, -1), (LONGER, 'c', 'd', -4, 2)):
            shifts = Shifts(net, a, b)
            fewest, stops = shifts.fewest(start, goal), steps(net, a, b, start, goal)[1]
            self.assertEqual(fewest, 2)
            rings = shifts.rings()
            seen = {True: 0, False: 0}
            for one in rings:
                for other in rings:
                    value = ('steps', stops, (one, other))
                    fits = shifts.fits_steps(start, goal, value, fewest)
                    seen[fits] += 1
                    self.shows(net, a, b, start, goal, value, fits)
            self.assertGreater(min(seen.values()), 0)

    def test_one_stop_and_each_ring(self):
        seen = {True: 0, False: 0}
        for net, a, b in ((SQUARE, 'c', 'd'), OVER):
            shifts = Shifts(net, a, b)
            rings = shifts.rings()
            for start, goal in ((2, 4), (4, 2), (1, 4), (3, 7), (7, 3), (0, 4), (None, 4), (2, None), (None, 2)):
                fewest = shifts.fewest(start, goal)
                for value in [('steps', (stop,), (ring,)) for stop in range(8) for ring in rings]:
                    fits = shifts.fits_steps(start, goal, value, fewest)
                    seen[fits] += 1
                    self.shows(net, a, b, start, goal, value, fits)
        self.assertGreater(min(seen.values()), 10)

    def test_results_of_other_ends(self):
        shifts = Shifts(SQUARE, 'c', 'd')
        ends = ends_of(shifts)
        values = [steps(SQUARE, 'c', 'd', *pair) for pair in ends if pair[0] != pair[1]]
        for start, goal in ends:
            fewest = shifts.fewest(start, goal)
            for value in values:
                self.shows(SQUARE, 'c', 'd', start, goal, value, shifts.fits_steps(start, goal, value, fewest))

    def test_any_values(self):
        shifts = Shifts(SQUARE, 'c', 'd')
        for start, goal in ((0, None), (5, 0), (6, 7)):
            fewest = shifts.fewest(start, goal)
            for value in replaced(steps(SQUARE, 'c', 'd', start, goal)):
                self.shows(SQUARE, 'c', 'd', start, goal, value, shifts.fits_steps(start, goal, value, fewest))

    def test_a_ring_may_begin_anywhere(self):
        for one in (('a', 'b'), ('b', 'a')):
            for other in (('c', 'b'), ('b', 'c')):
                value = ('steps', (3, 5), (('d', one, (2, 4)), ('d', other, (4, 6))))
                self.shows(SQUARE, 'c', 'd', 0, None, value, True)
                self.shows(SQUARE, 'c', 'd', None, 0, ('steps', (5, 3), value[2]), True)

    def test_stops_lie_strictly_between_start_and_goal_in_their_order(self):
        self.shows(SQUARE, 'c', 'd', 3, 6, ('steps', (5,), (CB,)), True)
        self.shows(SQUARE, 'c', 'd', 6, 3, ('steps', (5,), (CB,)), True)
        for stops in ((3,), (4,), (6,), (7,), (2,), (), (5, 5), (3, 5), (5, 6)):
            self.shows(SQUARE, 'c', 'd', 3, 6, ('steps', stops, (CB,)), False)
        self.shows(SQUARE, 'c', 'd', None, 0, ('steps', (5, 3), (AB, CB)), True)
        self.shows(SQUARE, 'c', 'd', None, 0, ('steps', (3, 5), (AB, CB)), False)
        self.shows(SQUARE, 'c', 'd', 0, None, ('steps', (5, 3), (AB, CB)), False)

    def test_rings_ascend_whichever_way_the_steps_go(self):
        for start, goal, stops in ((0, None, (3, 5)), (None, 0, (5, 3))):
            self.shows(SQUARE, 'c', 'd', start, goal, ('steps', stops, (AB, CB)), True)
            self.shows(SQUARE, 'c', 'd', start, goal, ('steps', stops, (CB, AB)), False)
            self.shows(SQUARE, 'c', 'd', start, goal, ('steps', stops, (AB, AB)), False)
            self.shows(SQUARE, 'c', 'd', start, goal, ('steps', stops, (CB, CB)), False)

    def test_more_stops_than_needed(self):
        self.shows(SQUARE, 'c', 'd', 0, None, ('steps', (3, 5, 8), (AB, CB)), False)
        self.shows(SQUARE, 'c', 'd', 0, None, ('steps', (1, 3, 5), (AB, CB)), False)
        self.shows(SQUARE, 'c', 'd', 0, None, ('steps', (3, 5, 8), (AB, CB, CB)), False)
        self.shows(SQUARE, 'c', 'd', 0, 3, ('steps', (1,), (AB,)), False)
        self.shows(SQUARE, 'c', 'd', 0, 3, ('steps', (1,), ()), False)
        self.shows(SQUARE, 'c', 'd', 0, 3, ('steps', (), ()), True)

    def test_a_stop_too_few(self):
        self.shows(SQUARE, 'c', 'd', 0, None, ('steps', (3,), (AB,)), False)
        self.shows(SQUARE, 'c', 'd', 0, None, ('steps', (), ()), False)
        self.shows(SQUARE, 'c', 'd', 2, 4, ('steps', (), ()), False)

    def test_rings_whose_stretches_share_an_integer(self):
        # As many rings as stops, and the stops are quiet; but they are not as few as can be.
        for net, a, b in (FOUR, THREE, OVER):
            shifts = Shifts(net, a, b)
            rings = sorted(shifts.rings(), key=lambda ring: ring[2])
            fewest = shifts.fewest(shifts.least, None)
            word, stops, demands = steps(net, a, b, shifts.least, None)
            tried = 0
            for ring in rings:
                more = tuple(sorted(demands + (ring,), key=lambda each: each[2]))
                for stop in range(shifts.least + 1, shifts.most):
                    value = (word, tuple(sorted({*stops, stop})), more)
                    if len(value[1]) == len(more) and tried < 400:
                        tried += 1
                        self.assertFalse(shifts.fits_steps(shifts.least, None, value, fewest))
                        self.shows(net, a, b, shifts.least, None, value, False)
            self.assertGreater(tried, 10)

    def test_bools_are_no_integers(self):
        # Stretches from -2 to 0 and from 0 to 2, with stops at -1 and 1.
        word, stops, demands = steps(LONGER, 'c', 'd', -4, None)
        self.assertEqual([stops, [span for _, _, span in demands]], [(-1, 1), [(-2, 0), (0, 2)]])
        self.shows(LONGER, 'c', 'd', -4, None, (word, (-1, True), demands), False)
        for span in ((-2, False), (True, 2), (False, 2)):
            for at in (0, 1):
                d, ring, _ = demands[at]
                self.shows(LONGER, 'c', 'd', -4, None,
                           (word, stops, demands[:at] + ((d, ring, span),) + demands[at + 1:]), False)

    def test_lists_are_no_tuples(self):
        for value in (list(FOUND), ('steps', [3, 5], (AB, CB)), ('steps', (3, 5), [AB, CB]),
                      ('steps', (3, 5), (list(AB), CB)), ('steps', (3, 5), (('d', ['a', 'b'], (2, 4)), CB)),
                      ('steps', (3, 5), (('d', ('a', 'b'), [2, 4]), CB)), ('steps', (3, 5), {AB: 1, CB: 2})):
            self.shows(SQUARE, 'c', 'd', 0, None, value, False)
        self.shows(SQUARE, 'c', 'd', 0, 3, ('steps', [], ()), False)
        self.shows(SQUARE, 'c', 'd', 0, 3, ('steps', (), []), False)

    def test_forms(self):
        for word in ('step', 'Steps', '', 'rounds', None, 0, ('steps',), ['steps'], SQUARE):
            self.shows(SQUARE, 'c', 'd', 0, None, (word, (3, 5), (AB, CB)), False)
        for value in (FOUND[:2], FOUND + (1,), FOUND[1:], (), ('steps',), 'steps', FOUND * 2):
            self.shows(SQUARE, 'c', 'd', 0, None, value, False)
        for ring in (AB[:2], AB + (1,), AB[1:], ('z', ('a', 'b'), (2, 4)), ('c', ('a', 'b'), (2, 4)),
                     (None, None, (2, 4)), ('d', ('a', 'b'), (2, 5)), ('d', ('a', 'b'), (1, 4)),
                     ('d', ('a', 'b'), (2, 4, 6)), ('d', ('a', 'b'), None), ('d', ('a', 'c'), None),
                     ('d', ('a', 'c'), (2, 4)), (['d'], ('a', 'b'), (2, 4)), 'dab', None):
            self.shows(SQUARE, 'c', 'd', 0, None, ('steps', (3, 5), (ring, CB)), False)

    def test_long_values(self):
        self.shows(SQUARE, 'c', 'd', 0, None, ('steps', (3, 5) * 5000, (AB, CB) * 5000), False)
        self.shows(SQUARE, 'c', 'd', 0, None, ('steps', tuple(range(3, 5003)), (AB,) * 5000), False)
        wide = tuple(('d', ('a', 'b'), (2 * at, 2 * at + 2)) for at in range(1, 3001))
        self.shows(SQUARE, 'c', 'd', 0, None, ('steps', tuple(range(3, 3003)), wide), False)
        self.shows(SQUARE, 'c', 'd', 0, None, ('steps', (3, 5), ((AB[0], AB[1] * 9999, AB[2]), CB)), False)
        self.shows(SQUARE, 'c', 'd', 0, None, nested(lambda value: ('steps', value, value), 10), False)
        self.shows(SQUARE, 'c', 'd', 0, None, ('steps', (3, 5 + GREAT), (AB, CB)), False)
        self.shows(SQUARE, 'c', 'd', 3, GREAT, ('steps', (5,), (CB,)), True)
        self.shows(SQUARE, 'c', 'd', GREAT, 0, ('steps', (5, 3), (AB, CB)), True)


if __name__ == '__main__':
    unittest.main()
