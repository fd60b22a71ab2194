"""Section 13, and G5."""

import copy
import random
import unittest
from itertools import product

from flows import all_rows, are_shortest, fits_bag, fits_wanted, is_row, small_lengths
from quietturns.errors import BadRows
from quietturns.nets import Net
from quietturns.wanted import shows_wanted, wanted
from search import subsets
from support import EIGHT, GREAT, PAIRS, SQUARE, Case, any_values, changed, full_net, great_net, not_ascending
from support import replaced, repr_of, some_nets

EXAMPLE = """
>>> from quietturns.nets import Net
>>> from quietturns.wanted import shows_wanted, wanted
>>> links = (('a', 'm', 1, 1), ('a', 'n', 1, 1), ('b', 'm', 1, 1), ('b', 'n', 1, 1), ('m', 'n', 1, 1))
>>> net, rows = Net(('a', 'b', 'm', 'n'), links), (('a', 'm', 'n', 'b'), ('a', 'n', 'm', 'b'))
>>> bag = ((rows[0], ('a', 'm', 'b'), 1), (rows[1], ('a', 'n', 'b'), 1))
>>> [wanted(net, rows[:1])[0], wanted(net, rows)[0], shows_wanted(net, rows, ('bag', bag))]
['lengths', 'bag', True]
"""
LINKS = (('a', 'm', 1, 1), ('a', 'n', 1, 1), ('b', 'm', 1, 1), ('b', 'n', 1, 1), ('m', 'n', 1, 1))
NET = Net(('a', 'b', 'm', 'n'), LINKS)
ROWS = (('a', 'm', 'n', 'b'), ('a', 'n', 'm', 'b'))
BAG = ('bag', ((ROWS[0], ('a', 'm', 'b'), 1), (ROWS[1], ('a', 'n', 'b'), 1)))
TRIANGLE = Net(('a', 'b', 'c'), (('a', 'b', 1, 1), ('a', 'c', 1, 1), ('b', 'c', 1, 1)))
# Round the triangle once: to be had only with unlike lengths in both directions.
AROUND = (('a', 'b', 'c'), ('b', 'c', 'a'), ('c', 'a', 'b'))
ALL = Net(EIGHT[:6], tuple(pair + (1, 1) for pair in PAIRS if pair[1] < 'g'))


def some_rows(source, net, many):
    """An ascending tuple of rows of the net, at most so many."""
    rows = set()
    for _ in range(many):
        row, size = [source.choice(net.routers)], source.randint(2, len(net.routers))
        while len(row) < size:
            further = [n for n in net.routers if n not in row and net.length(row[-1], n) is not None]
            if not further:
                break
            row.append(source.choice(further))
        if len(row) > 1:
            rows.add(tuple(row))
    return tuple(sorted(rows))


class WantedCase(Case):

    def shows(self, net, rows, value, expected):
        self.tells(lambda each: shows_wanted(net, rows, each), value, expected)

    def right(self, net, rows):
        """Expects a result that fits, and returns its word."""
        before, value = repr_of((net, rows)), wanted(net, rows)
        with self.subTest(links=net.links, rows=rows, value=value):
            self.assertTrue(fits_wanted(net, rows, value))
            self.assertIs(shows_wanted(net, rows, value), True)
            self.assertEqual(wanted(net, rows), value)
            self.assertEqual(repr_of((net, rows)), before)
        return value[0]


class Wanted(WantedCase):

    def test_the_example(self):
        self.example(EXAMPLE, 6)

    def test_against_all_small_lengths(self):
        seen = {'lengths': 0, 'bag': 0}
        source = random.Random(71)
        nets = [net for net in some_nets(200, most_routers=4, most_links=4, seed=71) if len(net.links) > 1]
        for net in nets[:60]:
            rows = some_rows(source, net, 8)[-source.randint(1, 8):]
            word = self.right(net, rows)
            seen[word] += 1
            # With a bag there are no lengths at all, so no small ones either; these small nets need none beyond 3.
            found = small_lengths(net, rows, 3 if len(net.links) < 4 else 2)
            if found is not None:
                self.assertEqual(word, 'lengths')
                self.shows(net, rows, ('lengths', found), True)
            elif len(net.links) < 4:
                self.assertEqual(word, 'bag')
        self.assertGreater(min(seen.values()), 5)

    def test_all_rows_of_the_triangle(self):
        seen = {'lengths': 0, 'bag': 0}
        for chosen in subsets(sorted(all_rows(TRIANGLE))):
            if 1 <= len(chosen) <= 8:
                word = self.right(TRIANGLE, chosen)
                seen[word] += 1
                self.assertEqual(word == 'lengths', small_lengths_of_the_triangle(chosen))
        self.assertGreater(min(seen.values()), 100)

    def test_drawn_rows_of_greater_nets(self):
        seen = {'lengths': 0, 'bag': 0}
        source = random.Random(72)
        for net in some_nets(150, most_routers=8, most_links=16, seed=72) + [ALL, full_net()] * 10:
            rows = some_rows(source, net, source.randint(1, 8))
            if rows:
                seen[self.right(net, rows)] += 1
        self.assertGreater(min(seen.values()), 40)

    def test_eight_routers_and_sixteen_links(self):
        seen = {'lengths': 0, 'bag': 0}
        source = random.Random(73)
        for seed in range(60):
            net = great_net(seed)
            seen[self.right(net, some_rows(source, net, source.randint(1, 8)))] += 1
        self.assertGreater(min(seen.values()), 10)

    def test_rows_that_are_shortest_ways_of_a_net(self):
        # So there are lengths, those of the net, though they may be great ones.
        source = random.Random(74)
        for seed in range(25):
            net = great_net(seed, 10 ** 9)
            rows = [row for row in some_rows(source, net, 400) if are_shortest(net.routers, net.links, (row,))]
            rows = tuple(sorted(source.sample(rows, min(8, len(rows)))))
            self.shows(net, rows, ('lengths', net.links), True)
            self.assertEqual(self.right(net, rows), 'lengths')

    def test_lengths_that_are_far_apart(self):
        # Each link of a chain must be as long as a way over the two behind it, and so on.
        routers, links = EIGHT, []
        for a, b in zip(routers, routers[1:]):
            links.append((a, b, 1, 1))
        for a, b in zip(routers, routers[2:]):
            links.append((a, b, 1, 1))
        net = Net(routers, tuple(sorted(links)))
        rows = tuple(sorted((a, b, c) for a, b, c in zip(routers, routers[1:], routers[2:])))
        self.assertEqual(self.right(net, rows), 'lengths')
        more = tuple(sorted((c, b, a) for a, b, c in zip(routers[:4], routers[1:], routers[2:])))
        self.assertEqual(self.right(net, tuple(sorted(rows[:4] + more[:4]))), 'lengths')

    def test_the_lengths_of_the_net_do_not_matter(self):
        for size in (1, 7, 999999999, GREAT):
            net = Net(NET.routers, tuple((a, b, size, 2 * size) for a, b, _, _ in NET.links))
            for rows in (ROWS, ROWS[:1], ROWS[1:], (('a', 'm', 'b'), ('a', 'n', 'b'))):
                self.right(net, rows)
                self.shows(NET, rows, wanted(net, rows), True)

    def test_one_row(self):
        for net in (NET, TRIANGLE, SQUARE):
            for row in all_rows(net):
                self.assertEqual(self.right(net, (row,)), 'lengths')

    def test_rows_of_two_routers_and_eight_rows(self):
        self.assertEqual(self.right(TRIANGLE, (('a', 'b'), ('b', 'a'))), 'lengths')
        rows = (('a', 'm'), ('a', 'n'), ('b', 'm'), ('b', 'n'), ('m', 'a'), ('m', 'n'), ('n', 'a'), ('n', 'b'))
        self.assertEqual(self.right(NET, rows), 'lengths')
        self.assertEqual(self.right(Net(('a', 'b'), (('a', 'b', 5, 7),)), (('a', 'b'), ('b', 'a'))), 'lengths')
        links = wanted(NET, rows)[1]
        for a, n in rows:
            self.assertTrue(are_shortest(NET.routers, links, ((a, n),)))

    def test_unlike_lengths_in_both_directions(self):
        # The same with like lengths: each link would be as long as the two others together.
        self.assertEqual(self.right(TRIANGLE, AROUND), 'lengths')
        links = wanted(TRIANGLE, AROUND)[1]
        self.assertTrue(any(there != back for _, _, there, back in links))
        for lengths in product(range(1, 9), repeat=3):
            like = tuple((*link[:2], length, length) for link, length in zip(TRIANGLE.links, lengths))
            self.assertFalse(are_shortest(TRIANGLE.routers, like, AROUND))
        self.assertEqual(self.right(TRIANGLE, tuple(sorted(AROUND + tuple(row[::-1] for row in AROUND)))), 'bag')

    def test_bags_in_which_times_differ(self):
        # Swaps that only together, one of them twice, show that there are no lengths.
        links = tuple(pair + (1, 1) for pair in (('a', 'b'), ('a', 'c'), ('a', 'd'), ('b', 'c'), ('c', 'd')))
        net, rows = Net(('a', 'b', 'c', 'd'), links), (('a', 'c', 'd'), ('b', 'a', 'd'), ('b', 'c', 'a', 'd'))
        self.assertEqual(self.right(net, rows), 'bag')
        others, seen = (('a', 'd'), ('b', 'c', 'd'), ('b', 'a', 'c', 'd')), {}
        for times in product(range(1, 6), repeat=3):
            bag = tuple(zip(rows, others, times))
            seen[times] = fits_bag(net, rows, bag)
            self.shows(net, rows, ('bag', bag), seen[times])
        self.assertEqual([seen[2, 1, 1], seen[4, 2, 2], seen[1, 1, 1], seen[1, 2, 2]], [True, True, False, False])
        source = random.Random(75)
        for seed in range(200):
            net = great_net(seed, links=14)
            self.right(net, some_rows(source, net, 8))

    def test_by_name(self):
        self.assertEqual(wanted(rows=ROWS, net=NET)[0], 'bag')
        self.assertIs(shows_wanted(value=BAG, rows=ROWS, net=NET), True)

    def test_kinds_of_values(self):
        for rows in (ROWS, ROWS[:1]):
            word, found = wanted(NET, rows)
            self.assertEqual([word.__class__, found.__class__], [str, tuple])
            for each in found:
                self.assertIs(each.__class__, tuple)


def small_lengths_of_the_triangle(rows):
    """Whether lengths up to 3 make these rows shortest ways, from a table of all such lengths."""
    if not SMALL:
        SMALL.extend({row for row in all_rows(TRIANGLE) if are_shortest(TRIANGLE.routers, links, (row,))}
                     for links in all_small_lengths())
    return any(set(rows) <= shortest for shortest in SMALL)


SMALL = []


def all_small_lengths():
    """The links of the triangle with all lengths up to 3."""
    lengths = [(there, back) for there in (1, 2, 3) for back in (1, 2, 3)]
    return [tuple(link[:2] + both for link, both in zip(TRIANGLE.links, (x, y, z)))
            for x in lengths for y in lengths for z in lengths]


class Showing(WantedCase):

    def test_changed_results(self):
        seen = {}
        source = random.Random(76)
        cases = [(NET, ROWS), (NET, ROWS[:1]), (TRIANGLE, AROUND)]
        cases += [(TRIANGLE, some_rows(source, TRIANGLE, 5)) for _ in range(5)]
        cases += [(ALL, some_rows(source, ALL, 4)) for _ in range(3)]
        for net, rows in cases:
            value = wanted(net, rows)
            for other in changed(value):
                fits = fits_wanted(net, rows, other)
                seen[value[0], fits] = seen.get((value[0], fits), 0) + 1
                self.shows(net, rows, other, fits)
        self.assertEqual(len(seen), 4)
        self.assertGreater(min(seen.values()), 5)

    def test_all_small_lengths(self):
        for rows in (AROUND, AROUND[:2], (('a', 'b', 'c'), ('a', 'c')), (('a', 'b', 'c'), ('c', 'b', 'a'))):
            seen = {True: 0, False: 0}
            for links in all_small_lengths():
                fits = fits_wanted(TRIANGLE, rows, ('lengths', links))
                seen[fits] += 1
                self.shows(TRIANGLE, rows, ('lengths', links), fits)
            self.assertGreater(min(seen.values()), 0)

    def test_all_small_bags(self):
        swaps = [(row, other, times) for row in ROWS for other in all_rows(NET) for times in (1, 2)
                 if (row[0], row[-1]) == (other[0], other[-1])]
        seen = {True: 0, False: 0}
        for one in swaps:
            for other in [None] + swaps:
                bag = (one,) if other is None else (one, other)
                fits = fits_wanted(NET, ROWS, ('bag', bag))
                seen[fits] += 1
                self.shows(NET, ROWS, ('bag', bag), fits)
        self.assertGreater(min(seen.values()), 1)

    def test_a_row_itself_as_other(self):
        bag = BAG[1]
        for times in (1, 2, GREAT):
            self.shows(NET, ROWS, ('bag', tuple(sorted(bag + ((ROWS[0], ROWS[0], times),)))), True)
        self.shows(NET, ROWS, ('bag', ((ROWS[0], ROWS[0], 1),)), False)
        self.shows(NET, ROWS, ('bag', tuple(sorted(((row, row, 1) for row in ROWS)))), False)
        # The one row as the other of the other one, and the other way round.
        self.shows(NET, ROWS, ('bag', ((ROWS[0], ROWS[1], 1), (ROWS[1], ROWS[0], 1))), False)

    def test_times(self):
        for times in (2, 3, 7, GREAT):
            self.shows(NET, ROWS, ('bag', tuple((row, other, times) for row, other, _ in BAG[1])), True)
            self.shows(NET, ROWS, ('bag', (BAG[1][0][:2] + (times,), BAG[1][1])), False)
        for times in (0, -1, True, None, '1', (1,)):
            self.shows(NET, ROWS, ('bag', tuple((row, other, times) for row, other, _ in BAG[1])), False)
            # Beside swaps that are enough by themselves.
            self.shows(NET, ROWS, ('bag', tuple(sorted(BAG[1] + ((ROWS[0], ROWS[0], times),), key=repr))), False)

    def test_no_pair_twice(self):
        one, two = BAG[1]
        self.shows(NET, ROWS, ('bag', (one, one[:2] + (2,), two[:2] + (3,))), False)
        self.shows(NET, ROWS, ('bag', (one[:2] + (3,), two[:2] + (3,))), True)
        for value in not_ascending(BAG[1]):
            self.shows(NET, ROWS, ('bag', value), False)
        self.shows(NET, ROWS, ('bag', ()), False)

    def test_less_often_over_no_link(self):
        # The others go over just the links of the rows.
        rows = (('a', 'm', 'b'), ('a', 'n', 'b'))
        for bag in (((rows[0], rows[1], 1), (rows[1], rows[0], 1)), ((rows[0], rows[0], 2),)):
            self.shows(NET, rows, ('bag', bag), False)
        self.shows(NET, rows[:1], ('bag', ((rows[0], rows[1], 1),)), False)

    def test_rows_of_a_bag_are_rows_wanted(self):
        self.shows(NET, ROWS[:1], BAG, False)
        self.shows(NET, ROWS[:1], ('bag', BAG[1][:1]), False)
        for other in (('a', 'm'), ('a', 'b'), ('a', 'm', 'a', 'n', 'b'), ('a', 'm', 'm', 'b'), ('b', 'm', 'a'),
                      ('a', 'z', 'b'), ('a',), (), None, ['a', 'm', 'b'], 'amb'):
            self.shows(NET, ROWS, ('bag', ((ROWS[0], other, 1), BAG[1][1])), False)
            self.assertFalse(is_row(NET, other) and (other[0], other[-1]) == ('a', 'b'))
        # Of the links from router to router only some are missing.
        rows = (('c', 'd', 'a', 'b'), ('d', 'c', 'b'))
        one, two = (rows[0], ('c', 'b'), 1), (rows[1], ('d', 'a', 'b'), 1)
        self.shows(SQUARE, rows, ('bag', (one, two)), True)
        for other in (('c', 'a', 'b'), ('c', 'd', 'b'), ('c', 'd', 'b', 'a'), ('c', 'a', 'd', 'b')):
            self.shows(SQUARE, rows, ('bag', ((rows[0], other, 1), two)), False)

    def test_lengths_are_links_of_the_net_in_their_order(self):
        word, links = wanted(NET, ROWS[:1])
        for value in (links[::-1], links[:-1], links + links[:1], links + (('m', 'z', 1, 1),), (),
                      links[1:] + links[:1],
                      links[:-1] + (('m', 'n'),), links[:-1] + (('n', 'm', 1, 1),), links[:-1] + (['m', 'n', 1, 1],),
                      links[:-1] + (('m', 'n', 1, 1, 1),), list(links), dict.fromkeys(links, 1)):
            self.shows(NET, ROWS[:1], (word, value), False)
        for size in (2, 10 ** 9, GREAT):
            self.shows(NET, ROWS[:1], (word, tuple((a, b, x * size, y * size) for a, b, x, y in links)), True)
        for length in (0, -1, True, None, '1', (1,), 1 + GREAT):
            value = links[:-1] + (('m', 'n', length, 1),)
            self.shows(NET, ROWS[:1], (word, value), fits_wanted(NET, ROWS[:1], (word, value)))

    def test_lengths_of_nine_digits_and_more(self):
        net = great_net(3, 10 ** 9)
        rows = tuple(sorted(row for row in some_rows(random.Random(1), net, 300)
                            if are_shortest(net.routers, net.links, (row,))))[:8]
        self.shows(net, rows, ('lengths', net.links), True)
        for size in (10 ** 9, GREAT):
            links = tuple((a, b, x * size, y * size) for a, b, x, y in net.links)
            self.shows(net, rows, ('lengths', links), True)
            for at in range(16):
                for by in (1, -1, size, GREAT):
                    a, b, there, back = links[at]
                    other = links[:at] + ((a, b, there + by, back),) + links[at + 1:]
                    self.shows(net, rows, ('lengths', other), fits_wanted(net, rows, ('lengths', other)))

    def test_lengths_where_there_are_none(self):
        for links in (LINKS, wanted(NET, ROWS[:1])[1], wanted(NET, ROWS[1:])[1]):
            self.shows(NET, ROWS, ('lengths', links), False)

    def test_any_values(self):
        for rows in (ROWS, ROWS[:1]):
            for value in replaced(wanted(NET, rows)):
                self.shows(NET, rows, value, fits_wanted(NET, rows, value))

    def test_forms(self):
        for word in ('Bag', 'bags', 'lengths', '', None, 0, ('bag',), ['bag'], NET):
            self.shows(NET, ROWS, (word, BAG[1]), False)
        for value in (BAG[1], BAG + (1,), ('bag',), BAG[::-1], list(BAG), ('bag', list(BAG[1])), ('bag', dict.fromkeys(
                BAG[1])), ('bag', None)):
            self.shows(NET, ROWS, value, False)

    def test_long_values(self):
        self.shows(NET, ROWS, ('bag', BAG[1] * 9999), False)
        self.shows(NET, ROWS[:1], ('lengths', wanted(NET, ROWS[:1])[1] * 9999), False)
        self.shows(NET, ROWS, ('bag', ((ROWS[0] * 9999, ('a', 'm', 'b'), 1), BAG[1][1])), False)


class Errors(WantedCase):

    def test_bad_rows(self):
        one, two = ROWS
        found = any_values() + [[one], (list(one),), one, {one: 1}, (one, None), ((one, two),), (one[:1],), ((),)]
        found += not_ascending(ROWS) + [(one, one), ROWS + (('a', 'm', 'n', 'b'),)]
        # No links, no routers, a router twice.
        found += [(('a', 'b'),), (('a', 'm', 'b', 'a'),), (('a', 'm', 'a'),), (('a', 'z'),), (('z', 'a'),)]
        found += [(('a', 'a'),), (('a', 'b', 'm'),), (('m', 'a', 'b'),), (('m', 'a', 'b', 'n'),)]
        found += [(one, ('n', 'b', 'a'))]
        found += [((value, 'm'),) for value in any_values()] + [(('a', value),) for value in any_values()]
        found += [(one, value) for value in any_values()] + [(value, two) for value in any_values()]
        # Two wrong things at once.
        found += [[('a', 'b')], (two, one, ['a']), (('m', 'a'), ('a', 'b'))]
        for value in found:
            before = copy.deepcopy(value)
            with self.subTest(value=value):
                self.assertIs(self.raised(BadRows, wanted, NET, value).value, value)
                for shown in (BAG, None, ('lengths', LINKS), ['bag']):
                    self.assertIs(self.raised(BadRows, shows_wanted, NET, value, shown).value, value)
                self.assertEqual(repr_of(value), repr_of(before))

    def test_eight_rows_and_nine(self):
        rows = tuple(sorted(all_rows(NET)))
        self.right(NET, rows[:8])
        self.assertIs(self.raised(BadRows, wanted, NET, rows).value, rows)
        nine = rows[:9]
        self.assertIs(self.raised(BadRows, wanted, NET, nine).value, nine)

    def test_a_net_without_links(self):
        self.raised(BadRows, wanted, Net(('a', 'b'), ()), (('a', 'b'),))

    def test_results_as_rows(self):
        word, bag = wanted(NET, ROWS)
        others = tuple(sorted(other for _, other, _ in bag))
        self.assertEqual(self.right(NET, others), 'lengths')
        self.raised(BadRows, wanted, NET, bag)
        self.raised(BadRows, wanted, NET, wanted(NET, ROWS[:1])[1])


if __name__ == '__main__':
    unittest.main()
