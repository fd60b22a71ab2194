"""Section 6, and G1."""

import unittest
from itertools import permutations

from quietturns.errors import Unlike
from quietturns.judging import judged, shows_judged
from quietturns.nets import Net
from search import fits_judged, mishaps, subsets, tables_of
from support import EIGHT, GREAT, SQUARE, Case, any_values, changed, full_net, great_net, nested, replaced, repr_of
from support import some_nets, some_pairs

EXAMPLE = """
>>> from quietturns.judging import judged, shows_judged
>>> from quietturns.nets import Net
>>> net = Net(('a', 'b', 'c', 'd'), (('a', 'b', 1, 1), ('a', 'd', 5, 5), ('b', 'c', 1, 1), ('c', 'd', 1, 1)))
>>> [judged(net, net.without('c', 'd'))[:2], shows_judged(net, net.without('c', 'd'), ('turns', 'd', ('a', 'b'), ('b',)))]
[('turns', 'd'), True]
>>> judged(net, net.with_link('c', 'd', 4, 4))[0]
'quiet'
"""
OUT = SQUARE.without('c', 'd')
THREE = ('a', 'b', 'c')
NEAR, CHAIN = Net(THREE, (('a', 'b', 1, 1),)), Net(THREE, (('a', 'b', 1, 1), ('b', 'c', 1, 1)))
# For d packets turn between a and b, for e they are lost.
BOTH = (Net(('a', 'b', 'c', 'd', 'e'), SQUARE.links[:1] + (('a', 'd', 5, 5), ('a', 'e', 1, 1)) + SQUARE.links[2:]),
        Net(('a', 'b', 'c', 'd', 'e'), OUT.links))
# From rank 0 for the destination up.
QUIET = ('quiet', ((0, 1, 2, 3), (1, 0, 1, 2), (2, 1, 0, 1), (3, 2, 1, 0)))


def word_of(perils):
    """The word that judged says first of what can befall a packet."""
    return 'turns' if 'turns' in perils else 'lost' if 'lost' in perils else 'quiet'


class Judged(Case):

    def right(self, old, new):
        """Expects what is judged to be right by all runs, and returns it."""
        before = repr_of((old, new))
        perils, value = mishaps(old, new), judged(old, new)
        with self.subTest(old=old.links, new=new.links, value=value):
            self.assertEqual(value[0], word_of(perils))
            self.assertTrue(fits_judged(old, new, value, perils))
            self.assertIs(shows_judged(old, new, value), True)
            self.assertEqual(judged(old, new), value)
            self.assertEqual(repr_of((old, new)), before)
        return value

    def test_the_example(self):
        self.example(EXAMPLE, 5)

    def test_against_all_runs(self):
        found = {}
        for old, new in some_pairs(300, most_routers=5) + some_pairs(100, most_routers=4, greatest=2, seed=4):
            for pair in ((old, new), (new, old)):
                word = self.right(*pair)[0]
                found[word] = found.get(word, 0) + 1
        self.assertGreater(min(found.values()), 40)
        self.assertEqual(sorted(found), ['lost', 'quiet', 'turns'])

    def test_a_net_beside_itself(self):
        for net in some_nets(60) + [SQUARE, full_net(), great_net(1)]:
            value = judged(net, net)
            self.assertEqual(value[0], 'quiet')
            self.assertTrue(fits_judged(net, net, value, set()))
            self.assertIs(shows_judged(net, net, value), True)

    def test_a_link_taken_out(self):
        self.assertEqual(self.right(SQUARE, OUT)[:2], ('turns', 'd'))
        self.assertEqual(self.right(SQUARE, SQUARE.without('a', 'd'))[0], 'quiet')
        self.assertEqual(self.right(CHAIN, NEAR)[:3], ('lost', 'c', ('a', 'b')))

    def test_a_link_put_in(self):
        self.assertEqual(self.right(OUT, SQUARE)[0], 'turns')
        self.assertEqual(self.right(SQUARE.without('a', 'd'), SQUARE)[0], 'quiet')
        self.assertEqual(self.right(NEAR, CHAIN)[:3], ('lost', 'c', ('a', 'b')))

    def test_other_lengths(self):
        for length, word in ((1, 'quiet'), (3, 'quiet'), (4, 'quiet'), (5, 'turns'), (6, 'turns'), (GREAT, 'turns')):
            self.assertEqual(self.right(SQUARE, SQUARE.with_link('c', 'd', length, length))[0], word)
            self.assertEqual(self.right(SQUARE.with_link('c', 'd', length, length), SQUARE)[0], word)

    def test_lengths_for_one_direction(self):
        longer = SQUARE.with_link('c', 'd', 9, 1)
        self.assertEqual(self.right(SQUARE, longer)[:2], ('turns', 'd'))
        self.assertEqual(self.right(SQUARE, SQUARE.with_link('c', 'd', 1, 9))[0], 'quiet')

    def test_turning_is_told_ahead_of_losing(self):
        for old, new in (BOTH, BOTH[::-1]):
            self.assertEqual(mishaps(old, new), {'turns', 'lost'})
            self.assertEqual(self.right(old, new)[:2], ('turns', 'd'))

    def test_a_packet_is_lost_where_nothing_turns(self):
        for old, new in ((CHAIN, NEAR), (NEAR, CHAIN)):
            self.assertEqual(mishaps(old, new), {'lost'})
            self.assertEqual(self.right(old, new)[0], 'lost')

    def test_a_packet_that_is_not_sent_on_is_not_lost(self):
        apart, joined = Net(('a', 'b'), ()), Net(('a', 'b'), (('a', 'b', 1, 1),))
        self.assertEqual(self.right(joined, apart)[0], 'quiet')
        self.assertEqual(self.right(apart, joined)[0], 'quiet')
        self.assertEqual(self.right(NEAR, Net(THREE, ()))[0], 'quiet')
        self.assertEqual(self.right(Net(THREE, (('a', 'b', 1, 1),)), Net(THREE, (('b', 'c', 1, 1),)))[0], 'quiet')
        self.assertEqual(self.right(Net(EIGHT, (('a', 'b', 1, 1),)), Net(EIGHT, (('c', 'd', 1, 1),)))[0], 'quiet')

    def test_a_ring_of_more_than_two_routers(self):
        # Each of three routers has its own link to d; now the first, now the second one round is the shorter way.
        around = (('a', 'b', 1, 9), ('a', 'c', 9, 1), ('b', 'c', 1, 9))
        old = (('a', 'd', 7, 7), ('b', 'd', 3, 3), ('c', 'd', 20, 20))
        new = (('a', 'd', 3, 3), ('b', 'd', 20, 20), ('c', 'd', 7, 7))
        value = self.right(*[Net(SQUARE.routers, tuple(sorted(around + links))) for links in (old, new)])
        self.assertEqual([value[0], value[1], len(value[2])], ['turns', 'd', 3])

    def test_eight_routers_and_sixteen_links(self):
        words = {}
        for seed in range(12):
            for old, new in ((great_net(seed), great_net(seed + 50)), (great_net(seed), full_net())):
                value = judged(old, new)
                words[value[0]] = True
                self.assertTrue(fits_judged(old, new, value, ()))
                self.assertIs(shows_judged(old, new, value), True)
            a, b, there, back = old.links[seed]
            for new in (old.without(a, b), old.with_link(a, b, there + 10, back), old.with_link(a, b, there + 1, back)):
                value = judged(old, new)
                words[value[0]] = True
                self.assertTrue(fits_judged(old, new, value, ()))
                self.assertIs(shows_judged(old, new, value), True)
        self.assertEqual(sorted(words), ['lost', 'quiet', 'turns'])

    def test_unlike(self):
        for old, new in ((SQUARE, NEAR), (NEAR, SQUARE), (Net(('a', 'b'), ()), Net(('a', 'c'), ())),
                         (full_net(), SQUARE), BOTH[:1] + (SQUARE,)):
            self.raised(Unlike, judged, old, new)
            for value in [*any_values(), QUIET, ('turns', 'd', ('a', 'b'), ('b',))]:
                self.raised(Unlike, shows_judged, old, new, value)

    def test_by_name(self):
        self.assertEqual(judged(new=NEAR, old=CHAIN), judged(CHAIN, NEAR))
        self.assertIs(shows_judged(new=NEAR, old=CHAIN, value=('lost', 'c', ('a', 'b'), ('a',))), False)
        self.assertIs(shows_judged(value=('lost', 'c', ('a', 'b'), ('b',)), new=NEAR, old=CHAIN), True)


class Showing(Case):

    def shows(self, old, new, value, expected):
        self.tells(lambda each: shows_judged(old, new, each), value, expected)

    def test_all_rings_and_pairs_at_all_moments(self):
        told = {}
        pairs = [(SQUARE, OUT), (CHAIN, NEAR), (NEAR, CHAIN), (SQUARE, SQUARE)] + some_pairs(9, seed=3)
        for old, new in pairs:
            perils, rows = mishaps(old, new), [row for many in range(5) for row in permutations(old.routers, many)]
            for d in old.routers:
                for row in rows:
                    for moment in subsets(old.routers):
                        for value in (('turns', d, row, moment), ('lost', d, row, moment)):
                            fits = fits_judged(old, new, value, perils)
                            told[value[0], fits] = told.get((value[0], fits), 0) + 1
                            self.assertIs(shows_judged(old, new, value), fits, (old.links, new.links, value))
        self.assertEqual(len(told), 4)
        self.assertGreater(min(told.values()), 10)

    def test_changed_results(self):
        seen = {True: 0, False: 0}
        for old, new in [(SQUARE, OUT), (CHAIN, NEAR), BOTH, (SQUARE, SQUARE)] + some_pairs(12, seed=8):
            perils = mishaps(old, new)
            for value in changed(judged(old, new)):
                fits = fits_judged(old, new, value, perils)
                seen[fits] += 1
                self.shows(old, new, value, fits)
        self.assertGreater(min(seen.values()), 50)

    def test_results_of_other_nets(self):
        pairs = [pair for pair in some_pairs(160, seed=6) if len(pair[0].routers) == 4][:40]
        values = [judged(*pair) for pair in pairs]
        for old, new in pairs:
            perils = mishaps(old, new)
            for value in values:
                self.shows(old, new, value, fits_judged(old, new, value, perils))

    def test_any_values(self):
        for old, new in ((SQUARE, OUT), (SQUARE, SQUARE), (CHAIN, NEAR)):
            perils = mishaps(old, new)
            for value in replaced(judged(old, new)):
                self.shows(old, new, value, fits_judged(old, new, value, perils))

    def test_a_ring_may_begin_anywhere_and_others_may_have_learnt(self):
        for ring in (('a', 'b'), ('b', 'a')):
            for moment in (('b',), ('b', 'c'), ('b', 'd'), ('b', 'c', 'd')):
                self.shows(SQUARE, OUT, ('turns', 'd', ring, moment), True)
            for moment in ((), ('a',), ('a', 'b'), ('c', 'b'), ('b', 'b'), ['b'], ('b', 'e'), 'b', None, ('b', True)):
                self.shows(SQUARE, OUT, ('turns', 'd', ring, moment), False)

    def test_rings(self):
        self.shows(SQUARE, OUT, ('turns', 'd', ('b', 'c'), ('c',)), True)
        for ring in (('a',), (), ('b', 'd'), ('a', 'b', 'a', 'b'), ('a', 'b', 'b'), ('a', 'c'), ('a', 'b', 'c'),
                     ['a', 'b'], 'ab', {'a': 'b', 'b': 'a'}, ('a', 'e'), ('a', ['b'])):
            self.shows(SQUARE, OUT, ('turns', 'd', ring, ('b',)), False)
        for d in ('a', 'b', 'c', 'e', '', None, 3, ['d'], ('d',)):
            self.shows(SQUARE, OUT, ('turns', d, ('a', 'b'), ('b',)), False)

    def test_lost_where_packets_can_also_turn(self):
        for old, new in (BOTH, BOTH[::-1]):
            shown = [value for pair in permutations(old.routers, 2) for moment in subsets(old.routers)
                     for value in [('lost', 'e', pair, moment)] if shows_judged(old, new, value)]
            self.assertEqual(shown, [value for pair in permutations(old.routers, 2) for moment in subsets(old.routers)
                                     for value in [('lost', 'e', pair, moment)] if fits_judged(old, new, value, ())])
            self.assertGreater(len(shown), 10)

    def test_lost(self):
        self.shows(CHAIN, NEAR, ('lost', 'c', ('a', 'b'), ('b',)), True)
        self.shows(CHAIN, NEAR, ('lost', 'c', ('a', 'b'), ('b', 'c')), True)
        for moment in ((), ('a',), ('a', 'b'), ('c',), ('c', 'b'), ['b'], ('b', 'd')):
            self.shows(CHAIN, NEAR, ('lost', 'c', ('a', 'b'), moment), False)
        for pair in (('b', 'a'), ('b', 'c'), ('a', 'c'), ('a',), ('a', 'b', 'c'), ['a', 'b'], ('a', 'a'), 'ab'):
            self.shows(CHAIN, NEAR, ('lost', 'c', pair, ('b',)), False)
        self.shows(CHAIN, NEAR, ('turns', 'c', ('a', 'b'), ('b',)), False)
        # That the second one has no next router is not enough if it is the destination.
        self.shows(CHAIN, NEAR, ('lost', 'b', ('a', 'b'), ()), False)

    def test_any_ranks_that_fall(self):
        self.shows(SQUARE, SQUARE, QUIET, True)
        rows = QUIET[1]
        for at, row in enumerate(rows):
            for by in (-1, 5, GREAT, -GREAT):
                moved = tuple(rank + by for rank in row)
                self.shows(SQUARE, SQUARE, ('quiet', rows[:at] + (moved,) + rows[at + 1:]), True)
            for times, right in ((2, True), (GREAT, True), (0, False), (-1, False)):
                moved = tuple(rank * times for rank in row)
                self.shows(SQUARE, SQUARE, ('quiet', rows[:at] + (moved,) + rows[at + 1:]), right)
            self.shows(SQUARE, SQUARE, ('quiet', rows[:at] + (list(row),) + rows[at + 1:]), False)
        self.shows(SQUARE, SQUARE, ('quiet', rows[::-1]), False)
        for wrong in (rows[:3], rows + rows[:1], list(rows), rows[0], (), None, ((),) * 4):
            self.shows(SQUARE, SQUARE, ('quiet', wrong), False)

    def test_bools_are_no_ranks(self):
        pair = Net(('a', 'b'), (('a', 'b', 1, 1),))
        self.shows(pair, pair, ('quiet', ((0, 1), (1, 0))), True)
        for ranks in (((False, 1), (1, 0)), ((0, True), (1, 0)), ((0, 1), (True, False)), ((0, 1), (1, False))):
            self.shows(pair, pair, ('quiet', ranks), False)

    def test_ranks_fall_by_old_and_by_new(self):
        old, new = SQUARE, SQUARE.with_link('c', 'd', 4, 4)
        value = judged(old, new)
        self.shows(old, new, value, True)
        self.assertTrue(fits_judged(old, old, value, ()) and fits_judged(new, new, value, ()))
        seen = {}
        for ranks in permutations(range(4)):
            # Of the ranks for d, all four in each order; a sends to b by old and to d by new.
            tried = ('quiet', value[1][:3] + (ranks,))
            fits = tuple(fits_judged(*pair, tried, ()) for pair in ((old, old), (new, new), (old, new)))
            self.assertEqual(fits[2], fits[0] and fits[1])
            self.shows(old, new, tried, fits[2])
            self.shows(new, old, tried, fits[2])
            seen[fits] = True
        self.assertGreater(len(seen), 2)

    def test_ranks_are_not_enough_where_a_packet_can_be_lost(self):
        ranks = ((0, 1, 2), (1, 0, 1), (2, 1, 0))
        self.shows(CHAIN, CHAIN, ('quiet', ranks), True)
        self.shows(NEAR, NEAR, ('quiet', ranks), True)
        self.shows(CHAIN, NEAR, ('quiet', ranks), False)
        self.shows(NEAR, CHAIN, ('quiet', ranks), False)

    def test_no_links_at_all(self):
        apart = Net(THREE, ())
        self.shows(apart, apart, ('quiet', ((0, 0, 0), (5, -5, GREAT), (0, 0, 0))), True)
        self.shows(apart, apart, ('quiet', ((0, 0, 0), (5, -5, GREAT), (0, 0, None))), False)

    def test_forms(self):
        ring, lost = ('turns', 'd', ('a', 'b'), ('b',)), ('lost', 'c', ('a', 'b'), ('b',))
        for word in ('turn', 'quiet', 'lost', 'Turns', '', None, 0, True, ('turns',), ['turns'], SQUARE):
            self.shows(SQUARE, OUT, (word,) + ring[1:], False)
            self.shows(SQUARE, OUT, (word,), False)
        for word in ('turns', 'lost', '', None, 0, ('quiet',), ['quiet'], SQUARE):
            self.shows(SQUARE, SQUARE, (word,) + QUIET[1:], False)
        for value in (ring[:3], ring + (1,), ring + ('b',), list(ring), lost, ('turns',), QUIET, ring[1:]):
            self.shows(SQUARE, OUT, value, False)
        for value in (QUIET + ((),), QUIET[:1], QUIET[1], QUIET + QUIET[1:], list(QUIET)):
            self.shows(SQUARE, SQUARE, value, False)

    def test_long_values(self):
        self.shows(SQUARE, OUT, ('turns', 'd', ('a', 'b') * 20000, ('b',)), False)
        self.shows(SQUARE, OUT, ('turns', 'd', ('a', 'b'), ('b',) * 20000), False)
        self.shows(SQUARE, SQUARE, ('quiet', QUIET[1] * 20000), False)
        self.shows(SQUARE, SQUARE, ('quiet', QUIET[1][:3] + (QUIET[1][3] * 20000,)), False)
        self.shows(SQUARE, SQUARE, nested(lambda value: ('quiet', value)), False)

    def test_eight_routers_and_sixteen_links(self):
        for old, new in ((great_net(3), great_net(4)), (full_net(), full_net().without('a', 'b'))):
            for at, value in enumerate(changed(judged(old, new))):
                if at < 400:
                    self.shows(old, new, value, fits_judged(old, new, value, ()))

    def test_the_tables_of_the_tests_are_those_of_the_square(self):
        tables = tables_of(SQUARE)
        self.assertEqual([tables['a', d] for d in 'abcd'], [(), ('b',), ('b',), ('b',)])
        self.assertEqual([tables['d', d] for d in 'abcd'], [('c',), ('c',), ('c',), ()])


if __name__ == '__main__':
    unittest.main()
