"""Section 10, and G4."""

import copy
import random
import unittest
from fractions import Fraction

from flows import at_moment, loads_of, pair_of, ring_at, turning_for, walked_loads, worst_loads
from quietturns.errors import BadDemands, BadMoment, Turning, Unlike
from quietturns.judging import judged
from quietturns.loads import loads, moment_loads, worst
from quietturns.nets import Net
from search import subsets, tables_of
from support import EIGHT, GREAT, PAIRS, SQUARE, Case, any_values, full_net, great_net, not_ascending, repr_of
from support import some_demands, some_nets, some_pairs

EXAMPLE = """
>>> from quietturns.loads import loads, worst
>>> from quietturns.nets import Net
>>> net = Net(('a', 'b', 'c', 'd'), (('a', 'b', 1, 1), ('a', 'd', 5, 5), ('b', 'c', 1, 1), ('c', 'd', 1, 1)))
>>> [loads(net, (('a', 'd', 6),)), loads(net.with_link('c', 'd', 3, 3), (('a', 'd', 5),))[:2]]
[(('a', 'b', (6, 1)), ('b', 'c', (6, 1)), ('c', 'd', (6, 1))), (('a', 'b', (5, 2)), ('a', 'd', (5, 2)))]
>>> [row[:3] for row in worst(net, net.with_link('c', 'd', 4, 4), (('a', 'd', 6), ('b', 'd', 2)))]
[('a', 'b', (6, 1)), ('a', 'd', (6, 1)), ('b', 'c', (8, 1)), ('c', 'd', (8, 1))]
"""
FOUR = ('a', 'b', 'c', 'd')
# Twelve demands, all there can be among four routers.
TWELVE = tuple((a, d, at + 1) for at, (a, d) in enumerate([(a, d) for a in FOUR for d in FOUR if a != d]))
LONGER = SQUARE.with_link('c', 'd', 3, 3)
OUT = SQUARE.without('c', 'd')
# Each router of one side has links of the same length to all of the other side.
SIDES = Net(EIGHT, tuple((a, b, 1, 1) for a in EIGHT[:4] for b in EIGHT[4:]))
# From a to h over b and c, from each of these over d, e and f.
PARTED = Net(EIGHT, tuple(sorted(
    [('a', 'b', 1, 1), ('a', 'c', 1, 1), ('d', 'g', 1, 1), ('e', 'g', 1, 1), ('f', 'g', 1, 1), ('g', 'h', 1, 1)]
    + [(a, b, 1, 1) for a in 'bc' for b in 'def'])))
# From a to h there is a link, and there are ways over all others: a has seven next routers.
STAR = Net(EIGHT, tuple(sorted([('a', b, 1, 1) for b in EIGHT[1:7]] + [('a', 'h', 2, 2)]
                               + [(b, 'h', 1, 1) for b in EIGHT[1:7]])))
# Packets for c and for d turn.
BOTH = (SQUARE, Net(FOUR, (('a', 'b', 1, 1), ('a', 'd', 1, 1), ('c', 'd', 1, 1))))


def bad_demands():
    """Values that are no demands of the square."""
    one, two = ('a', 'd', 6), ('b', 'd', 2)
    found = [value for value in any_values() if value != ()]
    found += [[one], (list(one),), one, (one[:2],), (one + (1,),), {one: 1}, (one, None), ((one, two),), (one, []),
              'ad']
    found += not_ascending((one, two))
    # The same pair twice, also with other amounts; and turned round, which is another pair, but not ascending.
    found += [(one, ('a', 'd', 7)), (('a', 'd', 5), one), (two, ('b', 'a', 1))]
    found += [(('a', 'a', 1),), (('a', 'e', 1),), (('e', 'a', 1),), (one, ('z', 'd', 1)), (('', 'd', 1),)]
    found += [(('a', 'd', amount),) for amount in (0, -1, True, False, None, '1', (1,), [1], -GREAT)]
    found += [((value, 'd', 1),) for value in any_values()] + [(('a', value, 1),) for value in any_values()]
    found += [(('a', 'd', value),) for value in any_values() if value.__class__ is not int or value < 1]
    # Two wrong things at once.
    found += [[['a', 'a', 0]], (two, one, ['a']), (('a', 'e', True),)]
    return found


class Loads(Case):

    def right(self, net, demands):
        """Expects the loads that walking all shares finds, and returns them."""
        before, value = repr_of((net, demands)), loads(net, demands)
        with self.subTest(links=net.links, demands=demands):
            self.assertEqual(repr_of(value), repr_of(loads_of(tables_of(net), demands)))
            self.assertEqual(loads(net, demands), value)
            self.assertEqual(repr_of((net, demands)), before)
        return value

    def test_the_example(self):
        self.example(EXAMPLE, 5)

    def test_against_all_shares(self):
        source, fractions = random.Random(1), 0
        for net in some_nets(200, most_routers=6, most_links=12, greatest=2, seed=31):
            value = self.right(net, some_demands(source, net.routers, source.randint(0, 12)))
            fractions += any(load[1] > 1 for _, _, load in value)
        self.assertGreater(fractions, 20)

    def test_no_demands(self):
        for net in some_nets(20) + [SQUARE, full_net()]:
            self.assertEqual(loads(net, ()), ())

    def test_twelve_demands_and_thirteen(self):
        self.assertEqual(len(TWELVE), 12)
        self.right(SQUARE, TWELVE)
        # Five routers have pairs enough for thirteen.
        net = Net(('a', 'b', 'c', 'd', 'e'), SQUARE.links + (('d', 'e', 1, 1),))
        demands = tuple(sorted(TWELVE + (('e', 'a', 1),)))
        self.right(net, demands[1:])
        self.assertIs(self.raised(BadDemands, loads, net, demands).value, demands)

    def test_equal_parts(self):
        self.assertEqual(self.right(LONGER, (('a', 'd', 5),))[:2], (('a', 'b', (5, 2)), ('a', 'd', (5, 2))))
        value = self.right(PARTED, (('a', 'h', 1),))
        self.assertEqual(value[0], ('a', 'b', (1, 2)))
        self.assertIn(('b', 'd', (1, 6)), value)
        self.assertIn(('d', 'g', (1, 3)), value)
        self.assertIn(('g', 'h', (1, 1)), value)
        self.assertEqual([load for a, _, load in self.right(STAR, (('a', 'h', 3),)) if a == 'a'], [(3, 7)] * 7)

    def test_loads_whose_parts_have_many_divisors(self):
        for demands in ((('a', 'h', 1),), (('a', 'h', 9999999999), ('h', 'a', 7)), (('b', 'h', 11), ('h', 'b', 13))):
            self.right(STAR, demands)
            self.right(PARTED, demands)
            self.right(SIDES, demands)
        source = random.Random(2)
        dens = set()
        for _ in range(40):
            # All routers in a row, links as long as these are apart: every way that only goes on is a shortest one.
            links = [(a, b, ord(b) - ord(a), ord(b) - ord(a)) for a, b in sorted(source.sample(PAIRS, 16))]
            value = self.right(Net(EIGHT, tuple(links)), some_demands(source, EIGHT, 12, 9999999999))
            dens.update(load[1] for _, _, load in value)
        self.assertGreater(max(dens), 40)

    def test_a_load_is_in_lowest_terms(self):
        for amount, load in ((1, (1, 2)), (2, (1, 1)), (3, (3, 2)), (4, (2, 1)), (10 ** 10 - 1, (10 ** 10 - 1, 2))):
            self.assertEqual(loads(LONGER, (('a', 'd', amount),))[0], ('a', 'b', load))

    def test_both_directions_of_a_link(self):
        value = self.right(SQUARE, (('a', 'b', 3), ('b', 'a', 4)))
        self.assertEqual(value, (('a', 'b', (3, 1)), ('b', 'a', (4, 1))))

    def test_a_router_without_next_routers(self):
        net = Net(('a', 'b', 'c', 'd'), (('a', 'b', 1, 1), ('c', 'd', 1, 1)))
        self.assertEqual(self.right(net, (('a', 'b', 2), ('a', 'd', 5), ('c', 'a', 1))), (('a', 'b', (2, 1)),))
        self.assertEqual(self.right(Net(FOUR, ()), TWELVE), ())

    def test_eight_routers_and_sixteen_links(self):
        source = random.Random(3)
        for net in [full_net(), SIDES, STAR] + [great_net(seed) for seed in range(10)]:
            self.right(net, some_demands(source, EIGHT, 12, 9999999999))

    def test_great_amounts(self):
        self.assertEqual(loads(LONGER, (('a', 'd', GREAT),))[0], ('a', 'b', pair_of(Fraction(GREAT, 2))))

    def test_bad_demands(self):
        for value in bad_demands():
            before = copy.deepcopy(value)
            with self.subTest(value=value):
                self.assertIs(self.raised(BadDemands, loads, SQUARE, value).value, value)
                self.assertEqual(repr_of(value), repr_of(before))

    def test_results_as_demands(self):
        value = loads(SQUARE, (('a', 'd', 6),))
        self.assertIs(self.raised(BadDemands, loads, SQUARE, value).value, value)
        self.assertEqual(loads(SQUARE, tuple((a, b, load[0]) for a, b, load in value)), value)

    def test_by_name(self):
        self.assertEqual(loads(demands=(('a', 'b', 2),), net=SQUARE), (('a', 'b', (2, 1)),))


class MomentLoads(Case):

    def test_against_all_shares(self):
        source, seen = random.Random(4), {'turning': 0, 'loads': 0}
        for old, new in some_pairs(90, most_routers=5, seed=32):
            demands, tables = some_demands(source, old.routers, source.randint(0, 6)), (tables_of(old), tables_of(new))
            for moment in subsets(old.routers):
                sent = at_moment(tables, moment)
                d = ring_at(sent, old.routers)
                if d is None:
                    seen['loads'] += 1
                    value = moment_loads(old, new, moment, demands)
                    self.assertEqual(repr_of(value), repr_of(loads_of(sent, demands)))
                else:
                    seen['turning'] += 1
                    self.assertEqual(self.raised(Turning, moment_loads, old, new, moment, demands).destination, d)
        self.assertGreater(min(seen.values()), 50)

    def test_nobody_and_everybody(self):
        for demands in ((('a', 'd', 6),), TWELVE, ()):
            self.assertEqual(moment_loads(SQUARE, OUT, (), demands), loads(SQUARE, demands))
            self.assertEqual(moment_loads(SQUARE, OUT, FOUR, demands), loads(OUT, demands))

    def test_what_is_given_up_goes_no_further(self):
        chain = Net(('a', 'b', 'c'), (('a', 'b', 1, 1), ('b', 'c', 1, 1)))
        near = chain.without('b', 'c')
        self.assertEqual(moment_loads(chain, near, ('b',), (('a', 'c', 2),)), (('a', 'b', (2, 1)),))
        self.assertEqual(moment_loads(chain, near, ('a',), (('a', 'c', 2),)), ())
        self.assertEqual(moment_loads(near, chain, ('a',), (('a', 'c', 2), ('b', 'c', 1))), (('a', 'b', (2, 1)),))

    def test_turning_of_the_least_destination(self):
        # At the moment of b, packets for d turn between a and b; there is no demand for it.
        for demands in ((), (('a', 'b', 1),), (('a', 'd', 1),)):
            self.assertEqual(self.raised(Turning, moment_loads, SQUARE, OUT, ('b',), demands).destination, 'd')
        moments = [moment for moment in subsets(FOUR) if ring_at(at_moment(tuple(map(tables_of, BOTH)), moment), FOUR)]
        found = {self.raised(Turning, moment_loads, *BOTH, moment, (('a', 'd', 1),)).destination for moment in moments}
        self.assertEqual(found, {ring_at(at_moment(tuple(map(tables_of, BOTH)), moment), FOUR) for moment in moments})
        self.assertGreater(len(found), 1)

    def test_the_errors_in_their_order(self):
        other = Net(('a', 'b', 'c'), ())
        for moment in [*any_values(), (), ('b',), ('d', 'a')]:
            for demands in ((), [()], (('a', 'a', 1),)):
                self.raised(Unlike, moment_loads, SQUARE, other, moment, demands)
                self.raised(Unlike, moment_loads, other, SQUARE, moment, demands)
        for moment in [value for value in any_values() if value not in ((), ('a',), ('a', 'b'))] + [
                ('b', 'a'), ('a', 'a'), ('e',), ('a', 'e'), ('a', None), ['a'], 'a', ('abcd',), (('a',),), FOUR * 2]:
            for demands in ((), [()], (('a', 'a', 1),)):
                self.assertIs(self.raised(BadMoment, moment_loads, SQUARE, OUT, moment, demands).value, moment)
        for demands in bad_demands():
            for moment in ((), ('b',), FOUR):
                self.assertIs(self.raised(BadDemands, moment_loads, SQUARE, OUT, moment, demands).value, demands)

    def test_by_name(self):
        self.assertEqual(moment_loads(demands=(('a', 'd', 1),), moment=(), new=OUT, old=SQUARE)[0], ('a', 'b', (1, 1)))


class Worst(Case):

    def right(self, old, new, demands):
        """Expects the greatest loads of all moments, or Turning; returns the rows, or the destination."""
        before, d = repr_of((old, new, demands)), turning_for(old, new)
        with self.subTest(old=old.links, new=new.links, demands=demands):
            if d is not None:
                self.assertEqual(self.raised(Turning, worst, old, new, demands).destination, d)
                self.assertEqual(judged(old, new)[0], 'turns')
                return d
            value, found = worst(old, new, demands), worst_loads(old, new, demands)
            self.assertEqual([row[:3] for row in value], [(a, b, pair_of(found[a, b][0])) for a, b in sorted(found)])
            for a, b, load, moment in value:
                self.assertIs(moment.__class__, tuple)
                self.assertIn(moment, found[a, b][1])
                self.assertIn((a, b, load), moment_loads(old, new, moment, demands))
            self.assertEqual(worst(old, new, demands), value)
            self.assertEqual(repr_of((old, new, demands)), before)
        return value

    def test_against_all_moments(self):
        source, seen = random.Random(5), {True: 0, False: 0}
        for old, new in some_pairs(150, most_routers=5, greatest=3, seed=33):
            for pair in ((old, new), (new, old)):
                value = self.right(*pair, some_demands(source, old.routers, source.randint(0, 8)))
                seen[isinstance(value, tuple)] += 1
        self.assertGreater(min(seen.values()), 40)

    def test_a_load_that_only_a_moment_between_has(self):
        found = 0
        for old, new in some_pairs(300, most_routers=5, greatest=3, seed=35):
            demands = tuple((a, d, 1) for a in old.routers for d in old.routers if a != d)[:12]
            if turning_for(old, new) is None:
                most = {}
                for net in (old, new):
                    for pair, load in walked_loads(tables_of(net), demands).items():
                        most[pair] = max(load, most.get(pair, 0))
                for a, b, load, moment in self.right(old, new, demands):
                    found += Fraction(*load) > most.get((a, b), 0)
        self.assertGreater(found, 5)

    def test_a_net_beside_itself(self):
        for net in some_nets(30) + [SQUARE, full_net(), STAR]:
            demands = some_demands(random.Random(7), net.routers, 12)
            self.assertEqual([row[:3] for row in worst(net, net, demands)], list(loads(net, demands)))

    def test_no_demands(self):
        self.assertEqual(worst(SQUARE, LONGER, ()), ())
        self.assertEqual(self.raised(Turning, worst, SQUARE, OUT, ()).destination, 'd')

    def test_turning_of_a_destination_of_no_demand(self):
        for demands in ((), (('a', 'b', 1),), (('a', 'd', 1),), TWELVE):
            self.assertEqual(self.raised(Turning, worst, SQUARE, OUT, demands).destination, 'd')
            self.assertEqual(self.raised(Turning, worst, OUT, SQUARE, demands).destination, 'd')
            self.assertEqual(self.raised(Turning, worst, *BOTH, demands).destination, turning_for(*BOTH))

    def test_eight_routers_and_sixteen_links(self):
        for seed in range(4):
            old = great_net(seed, 30)
            a, b, there, back = old.links[seed]
            self.right(old, old.with_link(a, b, there + 1, back + 1), some_demands(random.Random(seed), EIGHT, 12))
        self.right(STAR, STAR.with_link('a', 'h', 3, 3), (('a', 'h', 3), ('b', 'h', 2), ('h', 'a', 5)))
        self.right(SIDES, SIDES.with_link('a', 'e', 2, 2), some_demands(random.Random(9), EIGHT, 12, 9999999999))

    def test_the_errors_in_their_order(self):
        other = Net(('a', 'b', 'c', 'e'), ())
        for demands in bad_demands():
            self.raised(Unlike, worst, SQUARE, other, demands)
            self.assertIs(self.raised(BadDemands, worst, SQUARE, LONGER, demands).value, demands)
            # Ahead of Turning.
            self.assertIs(self.raised(BadDemands, worst, SQUARE, OUT, demands).value, demands)

    def test_by_name(self):
        value = worst(demands=(('a', 'd', 6), ('b', 'd', 2)), new=SQUARE.with_link('c', 'd', 4, 4), old=SQUARE)
        self.assertEqual(value[2][:3], ('b', 'c', (8, 1)))


if __name__ == '__main__':
    unittest.main()
