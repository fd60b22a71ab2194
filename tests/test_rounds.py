"""Section 9, and of G3 what it says of rounds."""

import unittest
from itertools import permutations

from quietturns.errors import Unlike
from quietturns.nets import Net
from quietturns.rounds import rounds, shows_rounds
from search import Rounds, can_turn, mishaps, subsets, tables_of
from support import EIGHT, GREAT, SQUARE, Case, any_values, changed, full_net, great_net, nested, replaced, repr_of
from support import greater_square, some_nets, some_pairs

EXAMPLE = """
>>> from quietturns.nets import Net
>>> net = Net(('a', 'b', 'c', 'd'), (('a', 'b', 1, 1), ('a', 'd', 5, 5), ('b', 'c', 1, 1), ('c', 'd', 1, 1)))
>>> from quietturns.rounds import rounds, shows_rounds
>>> out = net.without('c', 'd')
>>> [len(rounds(net, out)[1]), shows_rounds(net, out, ('rounds', (('a',), ('b',), ('c', 'd'))))]
[3, True]
"""
OUT = SQUARE.without('c', 'd')
FOUR = ('a', 'b', 'c', 'd')
# No rounds: after the moments of a, of b and of both, every further router makes packets turn or lose.
STUCK = (Net(FOUR, (('a', 'c', 2, 1), ('b', 'd', 3, 2), ('c', 'd', 2, 2))),
         Net(FOUR, (('a', 'd', 1, 2), ('b', 'c', 3, 3), ('c', 'd', 2, 2))))
MOMENTS = ((), ('a',), ('a', 'b'), ('b',))
# No rounds, as after b alone nothing goes on, and packets can also be lost.
STOPPED = (Net(FOUR, (('a', 'c', 2, 1), ('a', 'd', 1, 1), ('c', 'd', 3, 1))),
           Net(FOUR, (('a', 'b', 2, 1), ('a', 'c', 1, 1), ('c', 'd', 1, 3))))
# Routers can be told only one after the other: where packets can be lost, and where they can turn.
ALONE = ((Net(FOUR, (('a', 'b', 1, 4), ('a', 'd', 3, 3), ('b', 'd', 6, 5))),
          Net(FOUR, (('a', 'b', 2, 6), ('a', 'c', 4, 1), ('a', 'd', 4, 1), ('b', 'c', 1, 2), ('b', 'd', 1, 5),
                     ('c', 'd', 2, 4)))),
         (Net(FOUR, (('a', 'c', 3, 5), ('a', 'd', 6, 1), ('b', 'c', 1, 6), ('b', 'd', 6, 4), ('c', 'd', 2, 6))),
          Net(FOUR, (('a', 'b', 3, 2), ('a', 'd', 2, 2), ('b', 'c', 1, 2), ('c', 'd', 3, 2)))))
CHAIN = Net(('a', 'b', 'c'), (('a', 'b', 1, 1), ('b', 'c', 1, 1)))


def parted(routers):
    """All ways to tell all of these routers in rounds."""
    if not routers:
        return [()]
    return [(first,) + rest for first in subsets(routers) if first
            for rest in parted(tuple(router for router in routers if router not in first))]


class RoundsCase(Case):

    def shows(self, old, new, value, expected):
        self.tells(lambda each: shows_rounds(old, new, each), value, expected)


class Finding(RoundsCase):

    def right(self, old, new):
        """Expects the rounds to be sound and as few as a search of all finds, or the moments; returns how many."""
        before, value, played = repr_of((old, new)), rounds(old, new), Rounds(old, new)
        fewest, moments = played.fewest()
        with self.subTest(old=old.links, new=new.links, value=value):
            self.assertTrue(played.fits_rounds(value, fewest))
            self.assertEqual(value[0], 'none' if fewest is None else 'rounds')
            if fewest is None:
                self.assertEqual(value, ('none', moments))
            self.assertIs(shows_rounds(old, new, value), True)
            self.assertEqual(rounds(old, new), value)
            self.assertEqual(repr_of((old, new)), before)
        return fewest

    def test_the_example(self):
        self.example(EXAMPLE, 5)

    def test_against_all_rounds(self):
        found = {}
        for old, new in some_pairs(90, seed=21) + some_pairs(60, greatest=2, seed=22):
            for pair in ((old, new), (new, old)):
                many = self.right(*pair)
                found[many] = found.get(many, 0) + 1
        self.assertGreater(min(found[many] for many in (1, 2, 3)), 5)

    def test_against_all_rounds_of_five_routers(self):
        pairs = [pair for pair in some_pairs(40, most_routers=5, seed=23) if len(pair[0].routers) == 5]
        for old, new in pairs[:4]:
            self.right(old, new)

    def test_no_rounds(self):
        self.assertIsNone(self.right(*STUCK))
        self.assertEqual(rounds(*STUCK), ('none', MOMENTS))
        self.assertIsNone(self.right(*STOPPED))
        self.assertEqual(rounds(*STOPPED), ('none', ((), ('b',))))
        self.assertEqual(mishaps(*STOPPED), {'turns', 'lost'})

    def test_as_many_rounds_as_routers(self):
        for old, new in ALONE:
            self.assertEqual(self.right(old, new), 4)
            self.assertTrue(all(len(each) == 1 for each in rounds(old, new)[1]))

    def test_one_round(self):
        for net in some_nets(40) + [SQUARE, OUT, full_net(), great_net(1)]:
            self.assertEqual(rounds(net, net), ('rounds', (net.routers,)))
            self.shows(net, net, ('rounds', (net.routers,)), True)
        for length in (2, 3, 4):
            self.assertEqual(rounds(SQUARE, SQUARE.with_link('c', 'd', length, length)), ('rounds', (FOUR,)))
        self.assertEqual(rounds(SQUARE, SQUARE.without('a', 'd')), ('rounds', (FOUR,)))
        self.assertEqual(rounds(Net(FOUR, ()), Net(FOUR, ())), ('rounds', (FOUR,)))

    def test_a_link_put_in_and_taken_out(self):
        self.assertEqual(self.right(SQUARE, OUT), 3)
        self.assertEqual(self.right(OUT, SQUARE), 3)
        for length, many in ((4, 1), (5, 2), (6, 2), (7, 3), (GREAT, 3)):
            self.assertEqual(self.right(SQUARE, SQUARE.with_link('c', 'd', length, length)), many)

    def test_packets_that_are_lost(self):
        near = CHAIN.without('b', 'c')
        self.assertEqual(mishaps(CHAIN, near), {'lost'})
        self.assertEqual(self.right(CHAIN, near), 2)
        self.assertEqual(self.right(near, CHAIN), 2)
        # The last one ahead of the gap learns before the others where it is closed, behind them where it opens.
        for order in permutations(CHAIN.routers):
            told = tuple((router,) for router in order)
            self.assertIs(order.index('a') < order.index('b'), Rounds(CHAIN, near).leads_on(told))
            self.assertIs(order.index('a') > order.index('b'), Rounds(near, CHAIN).leads_on(told))

    def test_eight_routers_and_sixteen_links(self):
        words = {}
        nets = [great_net(seed) for seed in range(5)]
        pairs = list(zip(nets, nets[1:])) + [(full_net(), full_net().without('a', 'b'))]
        pairs += [(net, net.without(*net.links[at][:2])) for net in nets for at in (2, 9)]
        for old, new in pairs:
            word, found = rounds(old, new)
            words[word, len(found)] = True
            self.shows(old, new, (word, found), True)
            self.assertIn(word, ('rounds', 'none'))
            if word == 'rounds':
                self.assertEqual(sorted(sum(found, ())), list(EIGHT))
                self.sound(old, new, found)
            else:
                self.assertEqual(list(found), sorted(set(found)))
                self.assertIn((), found)
        self.assertGreater(len(words), 2)

    def sound(self, old, new, found):
        """Expects that in none of these rounds a packet turns or is lost, by the tables."""
        tables, moment = (tables_of(old), tables_of(new)), ()
        for told in found:
            both = [{key: tables[key[0] in moment + more][key] for key in tables[0]} for more in ((), told)]
            self.assertFalse(can_turn(*both, old.routers))
            for a, d in tables[0]:
                for n in both[0][a, d] + both[1][a, d]:
                    self.assertTrue(n == d or both[0][n, d] and both[1][n, d])
            moment = moment + told

    def test_lengths_of_many_digits(self):
        net = greater_square(GREAT)
        self.assertEqual(self.right(net, net.without('c', 'd')), 3)
        self.assertEqual(self.right(net.without('c', 'd'), net), 3)

    def test_unlike(self):
        for old, new in ((SQUARE, CHAIN), (CHAIN, SQUARE), (Net(('a', 'b'), ()), Net(('a', 'c'), ())),
                         (full_net(), SQUARE), (Net(FOUR, ()), Net(FOUR + ('e',), ()))):
            self.raised(Unlike, rounds, old, new)
            for value in [*any_values(), ('rounds', (FOUR,)), ('none', MOMENTS)]:
                self.raised(Unlike, shows_rounds, old, new, value)

    def test_by_name(self):
        self.assertEqual(rounds(new=STUCK[1], old=STUCK[0]), ('none', MOMENTS))
        self.assertIs(shows_rounds(value=('none', MOMENTS), new=STUCK[1], old=STUCK[0]), True)
        self.assertIs(shows_rounds(value=('rounds', (('a',), ('b',), ('c', 'd'))), new=OUT, old=SQUARE), True)

    def test_kinds_of_values(self):
        for value in (rounds(SQUARE, OUT), rounds(*STUCK)):
            self.assertEqual([value.__class__, len(value), value[1].__class__], [tuple, 2, tuple])
            for each in value[1]:
                self.assertIs(each.__class__, tuple)


class Showing(RoundsCase):

    def test_all_ways_to_tell_all(self):
        seen = {}
        pairs = [(SQUARE, OUT), (OUT, SQUARE), (SQUARE, SQUARE), STUCK, STOPPED, *ALONE]
        for old, new in pairs + some_pairs(25, seed=24):
            played = Rounds(old, new)
            fewest, _ = played.fewest()
            for told in parted(old.routers):
                value = ('rounds', told)
                fits, sound = played.fits_rounds(value, fewest), played.leads_on(told)
                seen[fits, sound] = seen.get((fits, sound), 0) + 1
                self.shows(old, new, value, fits)
        # Fewest and sound, sound but not fewest, and not sound.
        self.assertEqual(sorted(seen), [(False, False), (False, True), (True, True)])

    def test_all_sets_of_moments(self):
        for old, new in some_pairs(30, most_routers=3, seed=25) + [(CHAIN, CHAIN.without('b', 'c'))]:
            played = Rounds(old, new)
            fewest, _ = played.fewest()
            for moments in subsets(sorted(subsets(old.routers))):
                value = ('none', moments)
                self.shows(old, new, value, played.fits_rounds(value, fewest))

    def test_some_sets_of_moments(self):
        for old, new in (STUCK, STOPPED):
            played = Rounds(old, new)
            fewest, reached = played.fewest()
            others = [moment for moment in subsets(FOUR) if moment not in reached]
            shown = 0
            for more in subsets(others)[:2500]:
                value = ('none', tuple(sorted(reached + more)))
                fits = played.fits_rounds(value, fewest)
                shown += fits
                self.shows(old, new, value, fits)
            self.assertGreater(shown, 10)
            for moments in subsets(reached):
                value = ('none', moments)
                self.shows(old, new, value, played.fits_rounds(value, fewest))

    def test_moments_may_be_sound_or_not(self):
        played = Rounds(*STUCK)
        sound = [moment for moment in subsets(FOUR) if played.is_sound(moment)]
        unsound = tuple(moment for moment in subsets(FOUR) if not played.is_sound(moment))
        self.assertGreater(len(unsound), 3)
        self.shows(*STUCK, ('none', MOMENTS), True)
        for moment in unsound:
            self.shows(*STUCK, ('none', tuple(sorted(MOMENTS + (moment,)))), True)
        self.shows(*STUCK, ('none', tuple(sorted(MOMENTS + unsound))), True)
        self.assertIn(FOUR, sound)
        self.shows(*STUCK, ('none', tuple(sorted(MOMENTS + (FOUR,)))), False)
        self.shows(*STUCK, ('none', tuple(sorted(MOMENTS + unsound + (FOUR,)))), False)

    def test_none_where_there_are_rounds(self):
        for old, new in ((SQUARE, OUT), (SQUARE, SQUARE), ALONE[0]):
            every = tuple(sorted(subsets(FOUR)))
            for value in (every, every[:1], tuple(moment for moment in every if moment != FOUR), (), MOMENTS):
                self.shows(old, new, ('none', value), False)

    def test_changed_results(self):
        seen = {True: 0, False: 0}
        for old, new in [(SQUARE, OUT), STUCK, STOPPED, (SQUARE, SQUARE), ALONE[0]] + some_pairs(12, seed=26):
            played = Rounds(old, new)
            fewest, _ = played.fewest()
            for value in changed(rounds(old, new)):
                fits = played.fits_rounds(value, fewest)
                seen[fits] += 1
                self.shows(old, new, value, fits)
        self.assertGreater(min(seen.values()), 10)

    def test_results_of_other_nets(self):
        pairs = [pair for pair in some_pairs(120, seed=27) if len(pair[0].routers) == 4][:20] + [STUCK, STOPPED, *ALONE]
        values = [rounds(*pair) for pair in pairs]
        for old, new in pairs:
            played = Rounds(old, new)
            fewest, _ = played.fewest()
            for word, found in values:
                for value in ((word, found), ('rounds', found), ('none', found)):
                    self.shows(old, new, value, played.fits_rounds(value, fewest))

    def test_any_values(self):
        for old, new in ((SQUARE, OUT), STUCK, (SQUARE, SQUARE)):
            played = Rounds(old, new)
            fewest, _ = played.fewest()
            for value in replaced(rounds(old, new)):
                self.shows(old, new, value, played.fits_rounds(value, fewest))

    def test_every_router_is_told_once_in_a_round_that_is_not_empty(self):
        for told, right in (((('a',), ('b',), ('c', 'd')), True), ((('a',), ('b',), ('d', 'c')), False),
                            ((('a',), ('b',), ('c',)), False), ((('a',), ('b',), ('c', 'd'), ()), False),
                            (((), ('a', 'b'), ('c', 'd')), False), ((('a',), ('b',), ('c', 'd', 'd')), False),
                            ((('a',), ('a', 'b'), ('c', 'd')), False), ((('a',), ('b',), ('b', 'c', 'd')), False),
                            ((('a', 'd'), ('b',), ('c', 'd')), False), ((('a',), ('b',), ('c', 'e')), False),
                            ((('b',), ('a',), ('c', 'd')), False), ((('c', 'd'), ('b',), ('a',)), False),
                            ((('a',), ('b',), ('c',), ('d',)), False), ((('a',), ('b', 'c', 'd')), False),
                            ((), False), ((FOUR,), False), ((('a', 'd'), ('b',), ('c',)), True)):
            self.shows(SQUARE, OUT, ('rounds', told), right)
        for told in ((), ((),), (FOUR, ()), (FOUR, FOUR), (FOUR[::-1],), (FOUR[:3],), (FOUR[:3], FOUR[3:])):
            self.shows(SQUARE, SQUARE, ('rounds', told), False)

    def test_lists_are_no_tuples(self):
        told = (('a',), ('b',), ('c', 'd'))
        for value in (['rounds', told], ('rounds', list(told)), ('rounds', (['a'],) + told[1:]), ('rounds', 'abcd'),
                      ('rounds', ('a', 'b', 'cd')), ('rounds', {each: 1 for each in told})):
            self.shows(SQUARE, OUT, value, False)
        for value in (['none', MOMENTS], ('none', list(MOMENTS)), ('none', ([],) + MOMENTS[1:]),
                      ('none', ((), ['a']) + MOMENTS[2:]), ('none', {each: 1 for each in MOMENTS})):
            self.shows(*STUCK, value, False)

    def test_moments_ascend_and_are_moments(self):
        for moments in (MOMENTS[::-1], MOMENTS + MOMENTS[3:], MOMENTS[:1] + MOMENTS, MOMENTS[1:], MOMENTS[:3], (),
                        ((),), ((), ('a',), ('b',), ('a', 'b')), ((), ('a',), ('b', 'a'), ('b',)), MOMENTS + (('z',),),
                        ((), ('a',), ('a', 'b'), ('a', 'b', 'b'), ('b',)), MOMENTS + (None,), MOMENTS + ('b',)):
            self.shows(*STUCK, ('none', moments), False)

    def test_forms(self):
        told = (('a',), ('b',), ('c', 'd'))
        for word in ('round', 'Rounds', 'none', 'steps', '', None, 0, True, ('rounds',), ['rounds'], SQUARE):
            self.shows(SQUARE, OUT, (word, told), False)
        for word in ('None', 'rounds', '', None, 0, False, ('none',), ['none'], SQUARE):
            self.shows(*STUCK, (word, MOMENTS), False)
        for value in (('rounds',), ('rounds', told, ()), ('rounds',) + told, told, (), 'rounds', ('rounds', None)):
            self.shows(SQUARE, OUT, value, False)
        for value in (('none',), ('none', MOMENTS, ()), ('none',) + MOMENTS, MOMENTS, 'none', ('none', None)):
            self.shows(*STUCK, value, False)

    def test_long_values(self):
        self.shows(SQUARE, OUT, ('rounds', (('a',), ('b',), ('c', 'd')) * 20000), False)
        self.shows(SQUARE, OUT, ('rounds', (('a',) * 20000, ('b',), ('c', 'd'))), False)
        self.shows(*STUCK, ('none', MOMENTS * 20000), False)
        self.shows(*STUCK, ('none', nested(lambda value: (value,))), False)

    def test_eight_routers_and_sixteen_links(self):
        net = great_net(2)
        for old, new in ((great_net(0), great_net(1)), (net, net.without(*net.links[9][:2]))):
            word, found = rounds(old, new)
            for value in ((word, found[1:]), (word, found), (word, found + found), (word, found + (EIGHT,)),
                          (word, (EIGHT,)), (word, ()), (word, found[:-1]), ('quiet', found), (word, list(found))):
                self.shows(old, new, value, value == (word, found))


if __name__ == '__main__':
    unittest.main()
