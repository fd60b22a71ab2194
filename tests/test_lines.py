"""Section 11, and of G3 what it says of lines."""

import copy
import random
import unittest

from flows import Steps, grown
from quietturns.errors import BadCaps, BadDemands, BadOffers, BadRates, BadShift
from quietturns.lines import Line
from quietturns.loads import worst
from quietturns.nets import Net
from quietturns.steps import steps
from search import can_turn, tables_of
from support import EIGHT, GREAT, SQUARE, Case, any_values, changed, full_net, great_net, not_ascending, replaced
from support import greater_square, repr_of, some_demands, some_nets

EXAMPLE = """
>>> from quietturns.lines import Line
>>> from quietturns.nets import Net
>>> net = Net(('a', 'b', 'c', 'd'), (('a', 'b', 1, 1), ('a', 'd', 5, 5), ('b', 'c', 1, 1), ('c', 'd', 1, 1)))
>>> line = Line(net, (('c', 'd', 1),))
>>> [line.classes(4), line.steps(7)[:2], line.cheapest(7, ((1, 1), (3, 5), (5, 2)))[:3]]
[((0, 1), (2, 2), (3, 3), (4, 4)), ('steps', (3, 5)), ('stops', (3, 5), 7)]
>>> line.steps(7, demands=(('a', 'd', 6),), caps=(('a', 'd', 3),))[0]
'none'
"""
LINE = Line(SQUARE, (('c', 'd', 1),))
OFFERS = ((1, 1), (3, 5), (5, 2))
DEMANDS, CAPS = (('a', 'd', 6),), (('a', 'd', 3),)
# At 0 both ways from a to d are shortest, so that 0 is a class of its own.
LEVEL = Line(SQUARE.with_link('a', 'd', 3, 3), (('c', 'd', 1),))
# One stop is enough at 10, but neither at 4 nor at 14.
OVER = Line(Net(('a', 'b', 'c', 'd'), (('a', 'b', 6, 7), ('a', 'd', 4, 2), ('b', 'c', 1, 8), ('c', 'd', 2, 6))),
            (('c', 'd', 1),))
# From 0 to 1 the link grows past all the others at once, so that packets turn and there is no place to stop.
FAST = Line(SQUARE, (('c', 'd', 9),))


def some_lines(many, seed, most_routers=4, most_links=6, greatest=9):
    """Lines of all kinds, the same ones for equal calls."""
    source, lines = random.Random(seed), []
    for net in some_nets(4 * many, most_routers, most_links, greatest, seed):
        if net.links and len(lines) < many:
            chosen = sorted(source.sample(net.links, source.randint(1, len(net.links))))
            lines.append(Line(net, tuple((a, b, source.choice([1, 1, 2, 3, 9])) for a, b, _, _ in chosen)))
    return lines


def round_lines(many, seed, most_routers=5):
    """Lines on which links grow in a ring of links, so that many of them need stops."""
    source, lines = random.Random(seed), []
    while len(lines) < many:
        routers = EIGHT[:source.randint(4, most_routers)]
        around = [*zip(routers, routers[1:]), (routers[0], routers[-1])]
        across = [(a, b) for a in routers for b in routers if a < b and (a, b) not in around]
        pairs = sorted(around + source.sample(across, source.randint(0, 1)))
        links = tuple(pair + (source.choice([1, 1, 2, 6]), source.choice([1, 1, 2, 6])) for pair in pairs)
        chosen = sorted(source.sample(links, source.choice([1, 1, 2, 3])))
        lines.append(Line(Net(routers, links), tuple((a, b, source.choice([1, 1, 1, 2])) for a, b, _, _ in chosen)))
    return lines


def some_caps(source, net, many, greatest):
    """Caps for some ways over the links of the net."""
    ways = sorted([link[:2] for link in net.links] + [link[1::-1] for link in net.links])
    return tuple(way + (source.randint(0, greatest),) for way in sorted(source.sample(ways, min(many, len(ways)))))


def all_links(net, rate):
    """The line on which all links of the net grow at this rate."""
    return Line(net, tuple((a, b, rate) for a, b, _, _ in net.links))


class Making(Case):

    def test_attributes(self):
        for line in some_lines(20, 41) + [LINE]:
            made = Line(line.net, line.rates)
            self.assertIs(made.net, line.net)
            self.assertIs(made.rates, line.rates)
        self.assertEqual(Line(rates=LINE.rates, net=SQUARE), LINE)

    def test_one_rate_and_sixteen(self):
        for net in (full_net(), great_net(1)):
            self.assertEqual(len(all_links(net, 9).rates), 16)
            self.assertEqual(Line(net, all_links(net, 1).rates[3:4]).rates, (net.links[3][:2] + (1,),))

    def test_equal_lines(self):
        lines = [LINE, Line(SQUARE, (('c', 'd', 2),)), Line(SQUARE, (('a', 'b', 1), ('c', 'd', 1))), LEVEL,
                 Line(SQUARE.with_link('a', 'd', 6, 6), (('c', 'd', 1),)), Line(SQUARE, (('a', 'b', 1),))]
        for at, line in enumerate(lines):
            for other_at, other in enumerate(lines):
                self.assertIs(line == Line(other.net, other.rates), at == other_at)
                self.assertIs(line != Line(other.net, other.rates), at != other_at)
        for value in any_values() + [(SQUARE, LINE.rates), LINE.rates]:
            self.assertIs(LINE == value, False)
            self.assertIs(value == LINE, False)

    def test_bad_rates(self):
        one, two = ('a', 'b', 1), ('c', 'd', 9)
        self.assertEqual(Line(SQUARE, (one, two)).rates, (one, two))
        found = any_values() + [[one], (list(one),), one, (one[:2],), (one + (1,),), {one: 1}, (one, None)]
        found += [((one, two),)]
        found += not_ascending((one, two)) + [(one, ('a', 'b', 2)), (('a', 'd', 2), ('a', 'b', 1))]
        # No links of the square, turned round, and no routers.
        found += [(('a', 'c', 1),), (('b', 'a', 1),), (('a', 'a', 1),), (('a', 'z', 1),), (one, ('d', 'c', 1))]
        found += [(('a', 'b', rate),) for rate in (0, 10, -1, True, False, None, '1', GREAT, (1,), [1])]
        found += [((value, 'b', 1),) for value in any_values()] + [(('a', value, 1),) for value in any_values()]
        found += [(('a', 'b', value),) for value in any_values() if value.__class__ is not int or not 1 <= value <= 9]
        # Two wrong things at once.
        found += [[['a', 'c', 0]], (two, one, ['a']), (('a', 'c', True),)]
        for value in found:
            before = copy.deepcopy(value)
            with self.subTest(value=value):
                self.assertIs(self.raised(BadRates, Line, SQUARE, value).value, value)
                self.assertEqual(repr_of(value), repr_of(before))
        self.raised(BadRates, Line, Net(('a', 'b'), ()), ())

    def test_at(self):
        self.assertEqual(Line(SQUARE, (('a', 'b', 2), ('c', 'd', 9))).at(3),
                         SQUARE.with_link('a', 'b', 7, 7).with_link('c', 'd', 28, 28))
        for line in some_lines(40, 42) + [all_links(great_net(2), 7)]:
            before = repr_of((line.net, line.rates))
            self.assertEqual(line.at(0), line.net)
            for t in (0, 1, 2, 10, 9999999999, GREAT):
                self.assertEqual(line.at(t), grown(line.net, line.rates, t))
                self.assertIs(line.at(t=t).__class__, Net)
            self.assertEqual(repr_of((line.net, line.rates)), before)
        for value in any_values():
            if value.__class__ is not int or value < 0:
                self.assertIs(self.raised(BadShift, LINE.at, value).value, value)
        self.assertEqual(self.raised(BadShift, LINE.at, -1).value, -1)


class Classes(Case):

    def right(self, line, goal):
        """Expects the classes that comparing all tables finds, and returns how many there are."""
        value = line.classes(goal)
        with self.subTest(links=line.net.links, rates=line.rates, goal=goal):
            self.assertEqual(repr_of(value), repr_of(Steps(line, goal).classes()))
        return len(value)

    def test_the_example(self):
        self.example(EXAMPLE, 6)

    def test_against_all_tables(self):
        seen = {self.right(line, goal) for line in some_lines(120, 43, 5, 8, 25) for goal in (1, 9, 40)}
        self.assertGreater(len(seen), 8)

    def test_lines_whose_classes_are_one_integer_long(self):
        self.assertEqual(LINE.classes(6), ((0, 1),) + tuple((t, t) for t in range(2, 7)))
        self.assertEqual(LEVEL.classes(2)[:2], ((0, 0), (1, 1)))
        self.assertEqual(FAST.classes(1), ((0, 0), (1, 1)))

    def test_goal_of_one(self):
        self.assertEqual(LINE.classes(1), ((0, 1),))
        self.assertEqual(LEVEL.classes(1), ((0, 0), (1, 1)))
        for line in some_lines(40, 44):
            self.right(line, 1)

    def test_great_goals_and_lengths(self):
        first = LINE.classes(20)
        self.assertEqual(first[-1], (7, 20))
        for goal in (7, 8, 1000, 9999999999, GREAT):
            self.assertEqual(LINE.classes(goal), first[:-1] + ((7, goal),))
        # The square with all lengths so many times as great has each of its classes so many times later.
        for size in (10 ** 9, GREAT):
            line = Line(greater_square(size), (('c', 'd', 1),))
            bounds = [bound for t in (2, 4, 6) for bound in (t * size, t * size + 1)]
            found = line.classes(9 * size)
            self.assertEqual([span[0] for span in found], [0] + bounds)
            self.assertEqual([span[1] + 1 for span in found], bounds + [9 * size + 1])

    def test_of_great_nets_by_the_tables_at_their_ends(self):
        for seed in range(6):
            for line in (all_links(great_net(seed), 1), Line(great_net(seed), tuple(
                    link[:2] + (at % 9 + 1,) for at, link in enumerate(great_net(seed).links)))):
                goal, source = 9999999999, random.Random(seed)
                spans = line.classes(goal)
                self.assertEqual([spans[0][0], spans[-1][1]], [0, goal])
                for low, high in spans:
                    self.assertLessEqual(low, high)
                    tables = tables_of(grown(line.net, line.rates, low))
                    self.assertEqual(tables, tables_of(grown(line.net, line.rates, high)))
                    self.assertEqual(tables, tables_of(grown(line.net, line.rates, source.randint(low, high))))
                for one, other in zip(spans, spans[1:]):
                    self.assertEqual(one[1] + 1, other[0])
                    self.assertNotEqual(*[tables_of(grown(line.net, line.rates, t)) for t in (one[1], other[0])])

    def test_all_links_grow_alike(self):
        # Ways over fewer links become the shortest ones.
        line = all_links(SQUARE, 1)
        self.assertEqual(line.classes(9), ((0, 0), (1, 1), (2, 9)))
        self.right(line, 9)

    def test_bad_goals(self):
        for value in any_values() + [0, -1, True, -GREAT]:
            if value.__class__ is not int or value < 1:
                self.assertIs(self.raised(BadShift, LINE.classes, value).value, value)
        self.assertEqual(LINE.classes(goal=1), ((0, 1),))


class LineCase(Case):

    def shows(self, line, goal, value, expected, *more):
        self.tells(lambda each: line.shows_steps(goal, each, *more), value, expected)

    def shows_price(self, line, goal, offers, value, expected, *more):
        self.tells(lambda each: line.shows_cheapest(goal, offers, each, *more), value, expected)


class FewestSteps(LineCase):

    def right(self, line, goal, *more):
        """Expects the steps to be fine and as few as a search of all stops finds; returns how many stops there are."""
        before = repr_of((line.net, line.rates, more))
        played, value = Steps(line, goal, *more), line.steps(goal, *more)
        fewest = played.fewest()
        with self.subTest(links=line.net.links, rates=line.rates, goal=goal, more=more, value=value):
            self.assertEqual(value[0], 'none' if fewest is None else 'steps')
            self.assertTrue(played.fits_steps(value, fewest))
            self.assertIs(line.shows_steps(goal, value, *more), True)
            self.assertEqual(line.steps(goal, *more), value)
            self.assertEqual(repr_of((line.net, line.rates, more)), before)
        return fewest

    def test_against_all_stops(self):
        found = {}
        for line in some_lines(60, 45, 5, 8, 12) + round_lines(120, 45):
            for goal in (5, 14):
                many = self.right(line, goal)
                found[many] = found.get(many, 0) + 1
        self.assertGreater(min(found.get(many, 0) for many in (None, 0, 1, 2, 3)), 4)

    def test_against_all_stops_with_demands_and_caps(self):
        source, found = random.Random(46), {}
        for line in some_lines(40, 46, 4, 6, 9) + round_lines(120, 46):
            demands = some_demands(source, line.net.routers, source.randint(1, 6))
            caps = some_caps(source, line.net, source.randint(1, 4), 20)
            many = self.right(line, 9, demands, caps)
            # Also whether the caps demand more than that no packet turns.
            found[many, many == Steps(line, 9).fewest()] = True
        self.assertGreater(len(found), 4)

    def test_the_example(self):
        self.assertEqual(LINE.steps(7)[:2], ('steps', (3, 5)))
        self.assertEqual(self.right(LINE, 7), 2)
        self.assertIsNone(self.right(LINE, 7, DEMANDS, CAPS))
        self.assertEqual(self.right(LINE, 7, DEMANDS, (('a', 'd', 6),)), 2)
        for more in (((), CAPS), (DEMANDS, ()), (DEMANDS,)):
            self.assertEqual(self.right(LINE, 7, *more), 2)

    def test_as_one_link_alone(self):
        for net in some_nets(25, seed=47):
            for a, b, _, _ in net.links[:2]:
                for goal in (4, 15):
                    value = Line(net, ((a, b, 1),)).steps(goal)
                    self.assertEqual([value[0], len(value[1])], ['steps', len(steps(net, a, b, 0, goal)[1])])

    def test_goal_of_one(self):
        for line in some_lines(30, 48) + [LINE, LEVEL, FAST]:
            self.right(line, 1)
        self.assertEqual(LINE.steps(1), ('steps', (), (1,)))

    def test_no_fewest_stops(self):
        value = FAST.steps(1)
        self.assertEqual([value[0], value[1][-1]], ['none', None])
        for goal in (1, 2, 9):
            self.assertIsNone(self.right(FAST, goal))

    def test_caps_of_zero(self):
        self.assertIsNone(self.right(LINE, 7, DEMANDS, (('a', 'b', 0),)))
        self.shows(LINE, 7, ('none', (None,) * 7), True, DEMANDS, (('a', 'b', 0),))
        self.assertEqual(self.right(LINE, 7, DEMANDS, (('b', 'a', 0),)), 2)
        self.assertEqual(self.right(LINE, 7, DEMANDS, (('b', 'a', 0), ('c', 'b', 0), ('d', 'a', 0), ('d', 'c', 0))), 2)
        self.assertIsNone(self.right(LINE, 7, DEMANDS, (('a', 'd', 0),)))
        self.assertEqual(self.right(LINE, 1, DEMANDS, (('a', 'd', 0),)), 0)

    def test_caps_for_both_directions(self):
        demands = (('a', 'b', 3), ('b', 'a', 4))
        for there, back in ((3, 4), (2, 4), (3, 3), (0, 0), (4, 4)):
            caps = (('a', 'b', there), ('b', 'a', back))
            self.assertIs(self.right(LINE, 1, demands, caps) is None, there < 3 or back < 4)

    def test_a_load_that_is_just_the_cap(self):
        # At 2 there are two shortest ways from a to d.
        for cap, many in ((6, 0), (3, 0), (2, None), (0, None)):
            self.assertEqual(self.right(LINE, 2, DEMANDS, (('a', 'd', cap),)), many)
        # With both ways at the beginning and at the end.
        line = all_links(SQUARE.with_link('a', 'd', 3, 3), 1)
        for cap in (2, 3):
            self.right(line, 1, DEMANDS, (('a', 'd', cap),))

    def test_eight_caps(self):
        ways = sorted([link[:2] for link in SQUARE.links] + [link[1::-1] for link in SQUARE.links])
        self.assertEqual(len(ways), 8)
        for cap, many in ((20, 2), (3, None)):
            caps = tuple(way + (cap,) for way in ways)
            self.assertEqual(self.right(LINE, 7, (('a', 'd', 6), ('c', 'a', 5)), caps), many)

    def test_stops_that_only_caps_demand(self):
        found = 0
        source = random.Random(49)
        for line in round_lines(100, 49):
            demands = some_demands(source, line.net.routers, 5)
            if Steps(line, 8).fewest() == 0:
                loads = {row[:2]: row[2] for row in worst(line.net, line.at(8), demands)}
                for (a, b), (num, den) in sorted(loads.items()):
                    # Just too little for the one step.
                    many = self.right(line, 8, demands, ((a, b, (num - 1) // den),))
                    found += many is not None and many > 0
        self.assertGreater(found, 2)

    def test_great_goals(self):
        for goal in (8, 9999999999, GREAT):
            value = LINE.steps(goal)
            self.assertEqual(value[:2], ('steps', (3, 5)))
            self.shows(LINE, goal, value, True)
        size = 10 ** 12
        line = Line(greater_square(size), (('c', 'd', 1),))
        value = line.steps(9 * size)
        self.assertEqual([value[0], len(value[1])], ['steps', 2])
        self.shows(line, 9 * size, value, True)

    def test_eight_routers_and_sixteen_links(self):
        source, words = random.Random(50), {}
        for seed in range(8):
            net = great_net(seed, 40)
            line = Line(net, tuple(link[:2] + (source.randint(1, 9),) for link in net.links))
            demands, caps = some_demands(source, EIGHT, 12), some_caps(source, net, 8, 40)
            for more in ((), (demands, caps), (demands, tuple(way[:2] + (500,) for way in caps))):
                value = line.steps(9999999999, *more)
                words[value[0]] = True
                self.shows(line, 9999999999, value, True, *more)
                if value[0] == 'steps':
                    self.fine(line, (0, *value[1], 9999999999), *more)
        self.assertEqual(sorted(words), ['none', 'steps'])

    def fine(self, line, row, demands=(), caps=()):
        """Expects that each of these steps is fine."""
        for low, high in zip(row, row[1:]):
            self.assertFalse(can_turn(*[tables_of(grown(line.net, line.rates, t)) for t in (low, high)], EIGHT))
            loads = {way[:2]: way[2] for way in worst(line.at(low), line.at(high), demands)}
            for a, b, cap in caps:
                num, den = loads.get((a, b), (0, 1))
                self.assertLessEqual(num, cap * den)

    def test_by_name(self):
        self.assertEqual(LINE.steps(caps=CAPS, demands=DEMANDS, goal=7)[0], 'none')
        self.assertIs(LINE.shows_steps(caps=(), demands=(), value=LINE.steps(7), goal=7), True)
        self.assertIs(LINE.shows_steps(7, LINE.steps(7), caps=CAPS), True)
        self.assertIs(LINE.shows_steps(7, LINE.steps(7), DEMANDS, caps=CAPS), False)

    def test_kinds_of_values(self):
        for value in (LINE.steps(7), FAST.steps(3)):
            self.assertEqual([each.__class__ for each in value], [str] + [tuple] * (len(value) - 1))


class Showing(LineCase):

    def test_changed_results(self):
        seen = {True: 0, False: 0}
        # Few enough classes that each step is played.
        cases = [(LINE, 7), (LINE, 7, DEMANDS, CAPS), (LEVEL, 3), (FAST, 2), (LINE, 1), (all_links(SQUARE, 1), 4)]
        for line, goal, *more in cases + [(line, 8) for line in round_lines(12, 51)]:
            played = Steps(line, goal, *more)
            fewest = played.fewest()
            for value in changed(line.steps(goal, *more)):
                fits = played.fits_steps(value, fewest)
                seen[fits] += 1
                self.shows(line, goal, value, fits, *more)
        self.assertGreater(min(seen.values()), 20)

    def test_all_stops_and_all_levels(self):
        for line, goal, more in ((LINE, 3, ()), (LEVEL, 3, ()), (LINE, 4, (DEMANDS, (('a', 'd', 4),))), (FAST, 2, ())):
            played, seen = Steps(line, goal, *more), {}
            fewest, size = played.fewest(), len(played.classes())
            levels = [()]
            for _ in range(size):
                levels = [each + (level,) for each in levels for level in (None, 1, 2, 3)]
            for stops in [()] + [(t,) for t in range(1, goal)]:
                for each in levels:
                    for value in (('steps', stops, each), ('none', each)):
                        fits = played.fits_steps(value, fewest)
                        seen[fits] = seen.get(fits, 0) + 1
                        self.shows(line, goal, value, fits, *more)
            self.assertEqual(len(seen), 2)

    def test_the_level_of_a_first_class_of_0_alone_is_free(self):
        word, stops, levels = LEVEL.steps(3)
        for level in (None, 1, 2, 7, GREAT):
            self.shows(LEVEL, 3, (word, stops, (level,) + levels[1:]), True)
        for level in (0, -1, True, '1', (1,), [1]):
            self.shows(LEVEL, 3, (word, stops, (level,) + levels[1:]), False)
        # Where 1 is in it, too, there is a step from 0 to it.
        word, stops, levels = LINE.steps(7)
        for level in (None, 0, 2, True):
            self.shows(LINE, 7, (word, stops, (level,) + levels[1:]), False)

    def test_results_for_other_goals_and_caps(self):
        cases = [(LINE, 7, ()), (LINE, 6, ()), (LINE, 5, ()), (LINE, 7, (DEMANDS, CAPS)), (LEVEL, 6, ()), (FAST, 1, ())]
        values = [line.steps(goal, *more) for line, goal, more in cases]
        for line, goal, more in cases:
            played = Steps(line, goal, *more)
            fewest = played.fewest()
            for value in values:
                self.shows(line, goal, value, played.fits_steps(value, fewest), *more)

    def test_any_values(self):
        for line, goal in ((LINE, 7), (FAST, 2), (LINE, 1)):
            played = Steps(line, goal)
            fewest = played.fewest()
            for value in replaced(line.steps(goal)):
                self.shows(line, goal, value, played.fits_steps(value, fewest))

    def test_bools_and_lists(self):
        word, stops, levels = LINE.steps(7)
        self.assertEqual([stops, levels[:3]], [(3, 5), (1, 1, 1)])
        for value in ([word, stops, levels], (word, list(stops), levels), (word, stops, list(levels)),
                      (word, stops, (True,) + levels[1:]), (word, dict.fromkeys(stops), levels), (word, '35', levels)):
            self.shows(LINE, 7, value, False)
        # 1 as a stop, where 1 alone is enough.
        line = Line(SQUARE.with_link('a', 'd', 3, 3), (('a', 'b', 1), ('c', 'd', 1)))
        for goal in range(2, 6):
            for value in changed(line.steps(goal)):
                self.shows(line, goal, value, Steps(line, goal).fits_steps(value, Steps(line, goal).fewest()))

    def test_stops_elsewhere_in_the_same_classes(self):
        # From a over b or straight on: what matters is only in which class a stop is.
        line = Line(greater_square(3), (('c', 'd', 1),))
        played = Steps(line, 25)
        word, stops, levels = line.steps(25)
        self.assertEqual(len(stops), 2)
        seen = {True: 0, False: 0}
        for first in range(-1, 27):
            for second in range(-1, 27):
                value = (word, (first, second), levels)
                fits = played.fits_steps(value, 2)
                seen[fits] += 1
                self.shows(line, 25, value, fits)
        self.assertGreater(min(seen.values()), 20)

    def test_long_values(self):
        word, stops, levels = LINE.steps(7)
        self.shows(LINE, 7, (word, stops * 9999, levels), False)
        self.shows(LINE, 7, (word, stops, levels * 9999), False)
        self.shows(LINE, GREAT, (word, tuple(range(1, 3000)), levels[:-1] + (3000,)), False)
        self.shows(LINE, 7, (word, (3, 5 + GREAT), levels), False)
        self.shows(LINE, 7, (word, stops, levels[:-1] + (GREAT,)), False)


class Cheapest(LineCase):

    def right(self, line, goal, offers, *more):
        """Expects the cheapest stops that trying all of the offers finds; returns their price, None without any."""
        before = repr_of((line.net, line.rates, offers, more))
        played, value = Steps(line, goal, *more), line.cheapest(goal, offers, *more)
        best = played.cheapest(offers)
        with self.subTest(links=line.net.links, rates=line.rates, goal=goal, offers=offers, more=more, value=value):
            if best is None:
                self.assertEqual(value[0], 'none')
            else:
                self.assertEqual(value[:3], ('stops', best[2], best[0]))
            self.assertTrue(played.fits_cheapest(value, offers))
            self.assertIs(line.shows_cheapest(goal, offers, value, *more), True)
            self.assertEqual(line.cheapest(goal, offers, *more), value)
            self.assertEqual(repr_of((line.net, line.rates, offers, more)), before)
        return None if best is None else best[0]

    def test_the_example(self):
        self.assertEqual(self.right(LINE, 7, OFFERS), 7)

    def test_against_all_choices(self):
        source, found = random.Random(52), {}
        for line in some_lines(40, 52, 5, 8, 12) + round_lines(150, 52):
            goal = source.randint(2, 12)
            times = sorted(source.sample(range(1, goal), source.randint(0, min(6, goal - 1))))
            offers = tuple((t, source.choice([0, 1, 1, 2, 3, 999])) for t in times)
            more = ()
            if source.randint(0, 1):
                more = (some_demands(source, line.net.routers, 3), some_caps(source, line.net, 2, 12))
            price = self.right(line, goal, offers, *more)
            found[price] = found.get(price, 0) + 1
        self.assertGreater(min(found.get(price, 0) for price in (None, 0, 1)), 3)

    def test_no_offers(self):
        self.assertEqual(self.right(LINE, 2, ()), 0)
        self.assertEqual(LINE.cheapest(2, ()), ('stops', (), 0, (0,)))
        self.assertEqual(LINE.cheapest(1, ()), ('stops', (), 0, (0,)))
        self.assertIsNone(self.right(LINE, 7, ()))
        self.assertEqual(LINE.cheapest(7, ()), ('none', (None,)))

    def test_twelve_offers_and_thirteen(self):
        # From 8 on the tables do not change any more.
        offers = tuple((t, 13 - t) for t in range(1, 13))
        self.assertEqual(self.right(LINE, 15, offers), 10 + 8)
        self.assertEqual(len(offers), 12)
        self.assertIs(self.raised(BadOffers, LINE.cheapest, 15, offers + ((13, 0),)).value.__class__, tuple)

    def test_prices_of_0_and_999(self):
        self.assertEqual(self.right(LINE, 7, ((3, 0), (5, 0))), 0)
        self.assertEqual(self.right(LINE, 7, ((3, 999), (5, 999))), 1998)
        self.assertEqual(self.right(LINE, 7, ((1, 0), (2, 0), (3, 0), (4, 0), (5, 0), (6, 0))), 0)
        self.assertEqual(LINE.cheapest(7, ((1, 0), (2, 0), (3, 0), (4, 0), (5, 0), (6, 0)))[1], (3, 5))

    def test_equal_prices(self):
        # The fewest stops, and among these the least ones.
        line = Line(greater_square(3), (('c', 'd', 1),))
        for price in (0, 1, 7):
            offers = tuple((t, price) for t in (2, 7, 8, 9, 10, 11, 13, 14, 15, 16, 17, 20))
            self.right(line, 25, offers)
            self.assertEqual(len(line.cheapest(25, offers)[1]), 2)
        for offers in (((8, 2), (9, 0), (14, 2), (15, 2)), ((8, 1), (9, 1), (11, 0), (14, 1), (15, 1)),
                       ((7, 1), (8, 0), (10, 1), (14, 0), (16, 1)),
                       ((5, 0), (8, 3), (9, 3), (16, 3), (17, 3), (20, 0))):
            self.right(line, 25, offers)

    def test_more_stops_for_a_lower_price(self):
        for price, stops in ((50, (4, 14)), (3, (4, 14)), (2, (10,)), (1, (10,))):
            offers = ((4, 1), (10, price), (14, 1), (18, 40))
            self.assertEqual(self.right(OVER, 30, offers), min(price, 2))
            self.assertEqual(OVER.cheapest(30, offers)[1], stops)
        self.assertEqual(self.right(OVER, 30, ((4, 0), (7, 0), (10, 0), (14, 0), (17, 0))), 0)
        self.assertEqual(OVER.cheapest(30, ((4, 0), (7, 0), (10, 0), (14, 0), (17, 0)))[1], (10,))

    def test_none_with_its_papers(self):
        self.assertIsNone(self.right(LINE, 7, ((1, 1), (3, 5))))
        self.shows_price(LINE, 7, ((1, 1), (3, 5)), ('none', (1, 5, None)), True)
        self.assertEqual(LINE.cheapest(7, OFFERS, DEMANDS, CAPS)[0], 'none')
        self.assertIsNone(self.right(LINE, 7, OFFERS, DEMANDS, CAPS))
        self.assertIsNone(self.right(LINE, 7, OFFERS, DEMANDS, (('a', 'b', 0),)))
        self.shows_price(LINE, 7, OFFERS, ('none', (None,) * 4), True, DEMANDS, (('a', 'b', 0),))

    def test_great_goals(self):
        for goal in (9999999999, GREAT):
            value = LINE.cheapest(goal, OFFERS + ((7, 0), (goal - 1, 0)))
            self.assertEqual(value[:3], ('stops', (3, 5), 7))
            self.shows_price(LINE, goal, OFFERS + ((7, 0), (goal - 1, 0)), value, True)

    def test_eight_routers_and_sixteen_links(self):
        source, words = random.Random(54), {}
        for seed in range(6):
            net = great_net(seed, 40)
            line = Line(net, tuple(link[:2] + (source.randint(1, 9),) for link in net.links))
            spans = line.classes(500)
            times = sorted({span[0] for span in source.sample(spans, min(12, len(spans)))} - {0, 500})
            offers = tuple((t, source.randint(0, 999)) for t in times)
            more = (some_demands(source, EIGHT, 12), some_caps(source, net, 8, 60))
            for each in ((), more):
                value = line.cheapest(500, offers, *each)
                words[value[0]] = True
                self.shows_price(line, 500, offers, value, True, *each)
        self.assertEqual(sorted(words), ['none', 'stops'])

    def test_by_name(self):
        value = LINE.cheapest(caps=(), demands=(), offers=OFFERS, goal=7)
        self.assertIs(LINE.shows_cheapest(caps=(), demands=DEMANDS, value=value, offers=OFFERS, goal=7), True)
        self.assertIs(LINE.shows_cheapest(7, OFFERS, value, caps=CAPS), True)
        self.assertIs(LINE.shows_cheapest(7, OFFERS, value, demands=DEMANDS, caps=CAPS), False)

    def test_kinds_of_values(self):
        self.assertEqual([each.__class__ for each in LINE.cheapest(7, OFFERS)], [str, tuple, int, tuple])
        self.assertEqual([each.__class__ for each in LINE.cheapest(7, ())], [str, tuple])


class ShowingPrices(LineCase):

    def test_changed_results(self):
        seen = {True: 0, False: 0}
        cases = [(LINE, 7, OFFERS), (LINE, 7, ()), (LINE, 1, ()), (LINE, 7, OFFERS, DEMANDS, CAPS),
                 (LINE, 7, ((3, 0), (4, 2), (5, 0))), (FAST, 3, ((1, 1), (2, 0)))]
        source = random.Random(55)
        for line in round_lines(12, 55):
            cases.append((line, 8, tuple((t, source.randint(0, 3)) for t in (1, 3, 4, 6))))
        for line, goal, offers, *more in cases:
            played = Steps(line, goal, *more)
            for value in changed(line.cheapest(goal, offers, *more)):
                fits = played.fits_cheapest(value, offers)
                seen[fits] += 1
                self.shows_price(line, goal, offers, value, fits, *more)
        self.assertGreater(min(seen.values()), 20)

    def test_all_stops_and_all_papers(self):
        numbers = (None, -3, 0, 1, 2, 3, 4)
        for line, goal, offers in ((LINE, 4, ((3, 2), )), (LINE, 4, ((1, 1), (3, 2))), (LINE, 7, ((3, 1), (5, 1)))):
            played, seen = Steps(line, goal), {}
            papers = [()]
            for _ in range(len(offers) + 1):
                papers = [each + (number,) for each in papers for number in numbers]
            for stops in ((), (1,), (3,), (1, 3), (3, 5), (3, 1)):
                for each in papers:
                    for value in (('stops', stops, each[-1], each), ('none', each)):
                        fits = played.fits_cheapest(value, offers)
                        seen[fits] = seen.get(fits, 0) + 1
                        self.shows_price(line, goal, offers, value, fits)
            self.assertEqual(len(seen), 2)

    def test_more_stops_than_needed_of_the_same_price(self):
        offers = ((1, 0), (3, 5), (5, 2), (6, 0))
        papers = LINE.cheapest(7, offers)[3]
        for stops, fits in (((3, 5), True), ((1, 3, 5), True), ((1, 3, 5, 6), True), ((3, 5, 6), True), ((3,), False),
                            ((3, 6), False), ((1, 5), False), ((3, 5, 5), False), ((5, 3), False), ((2, 3, 5), False)):
            self.shows_price(LINE, 7, offers, ('stops', stops, 7, papers), fits)

    def test_a_greater_price(self):
        value = LINE.cheapest(7, OFFERS)
        self.shows_price(LINE, 7, OFFERS, ('stops', (1, 3, 5), 8, value[3]), False)
        self.shows_price(LINE, 7, OFFERS, ('stops', (1, 3, 5), 7, value[3]), False)
        self.shows_price(LINE, 7, OFFERS, ('stops', (1, 3, 5), 8, value[3][:-1] + (8,)), False)
        self.shows_price(LINE, 7, OFFERS, ('stops', (3, 5), 8, value[3]), False)

    def test_any_values(self):
        for line, goal, offers in ((LINE, 7, OFFERS), (LINE, 7, ()), (LINE, 4, ((1, 1), (3, 0)))):
            played = Steps(line, goal)
            for value in replaced(line.cheapest(goal, offers)):
                self.shows_price(line, goal, offers, value, played.fits_cheapest(value, offers))

    def test_bools_and_lists(self):
        offers = ((1, 0), (3, 1), (5, 0))
        value = ('stops', (3, 5), 1, (0, 1, 1, 1))
        self.shows_price(LINE, 7, offers, value, True)
        self.shows_price(LINE, 7, offers, ('stops', (1, 3, 5), 1, (0, 1, 1, 1)), True)
        for other in (('stops', (3, 5), True, value[3]), ('stops', (3, 5), 1, (0, 1, 1, True)),
                      ('stops', (3, 5), 1, (False, 1, 1, 1)), ('stops', [3, 5], 1, value[3]), list(value),
                      ('stops', (True, 3, 5), 1, value[3]), ('stops', (3, 5), 1, list(value[3])),
                      ('stops', {3: 1, 5: 0}, 1, value[3]), ('steps', (3, 5), 1, value[3])):
            self.shows_price(LINE, 7, offers, other, False)

    def test_long_values(self):
        value = LINE.cheapest(7, OFFERS)
        self.shows_price(LINE, 7, OFFERS, ('stops', value[1] * 9999, 7, value[3]), False)
        self.shows_price(LINE, 7, OFFERS, ('stops', value[1], 7, value[3] * 9999), False)
        for paper, fits in ((1, True), (0, True), (-1, False), (2, False), (-GREAT, False), (GREAT, False)):
            self.shows_price(LINE, 7, OFFERS, ('stops', value[1], 7, (paper,) + value[3][1:]), fits)


class Errors(LineCase):

    def of_steps(self, kind, goal, *more):
        """The values of the errors of steps and shows_steps."""
        found = [self.raised(kind, LINE.steps, goal, *more).value]
        for value in (LINE.steps(7), None, ['steps'], ('none', ())):
            found.append(self.raised(kind, LINE.shows_steps, goal, value, *more).value)
        return found

    def of_prices(self, kind, goal, offers, *more):
        """The values of the errors of cheapest and shows_cheapest."""
        found = [self.raised(kind, LINE.cheapest, goal, offers, *more).value]
        for value in (LINE.cheapest(7, OFFERS), None, ['stops'], ('none', ())):
            found.append(self.raised(kind, LINE.shows_cheapest, goal, offers, value, *more).value)
        return found

    def bad_caps(self):
        """Values that are no caps of the square."""
        one, two = ('a', 'b', 0), ('d', 'c', 3)
        self.assertEqual(LINE.steps(1, (), (one, two))[0], 'steps')
        found = [value for value in any_values() if value != ()]
        found += [[one], (list(one),), one, (one[:2],), (one + (1,),), {one: 1}, (one, None), ((one, two),), 'ab']
        found += not_ascending((one, two)) + [(one, ('a', 'b', 2)), (('a', 'd', 2), ('a', 'b', 1))]
        # Two routers without a link, one router alone, no routers.
        found += [(('a', 'c', 1),), (('b', 'd', 1),), (('a', 'a', 1),), (('a', 'z', 1),), (('z', 'a', 1),)]
        found += [(('a', 'b', cap),) for cap in (-1, True, False, None, '1', (1,), [1], -GREAT)]
        found += [((value, 'b', 1),) for value in any_values()] + [(('a', value, 1),) for value in any_values()]
        found += [(('a', 'b', value),) for value in any_values() if value.__class__ is not int or value < 0]
        return found

    def test_eight_caps_and_nine(self):
        net = great_net(1)
        line = all_links(net, 1)
        caps = tuple(link[:2] + (GREAT,) for link in net.links[:9])
        self.assertIs(line.shows_steps(1, line.steps(1, (), caps[1:]), (), caps[:-1]), True)
        self.assertIs(self.raised(BadCaps, line.steps, 1, (), caps).value, caps)
        self.assertIs(self.raised(BadCaps, line.shows_steps, 1, None, (), caps).value, caps)
        self.assertIs(self.raised(BadCaps, line.cheapest, 1, (), (), caps).value, caps)
        self.assertIs(self.raised(BadCaps, line.shows_cheapest, 1, (), None, (), caps).value, caps)

    def test_bad_goals(self):
        for goal in [value for value in any_values() if value.__class__ is not int or value < 1] + [0, -1, -GREAT]:
            for demands, caps in (((), ()), ([], ()), ((), []), ('x', 'y')):
                for value in self.of_steps(BadShift, goal, demands, caps):
                    self.assertIs(value, goal)
                for offers in ((), [], OFFERS):
                    for value in self.of_prices(BadShift, goal, offers, demands, caps):
                        self.assertIs(value, goal)

    def test_bad_offers(self):
        one, two = (1, 1), (3, 5)
        found = [value for value in any_values() if value != ()]
        found += [[one], (list(one),), one, (one[:1],), (one + (1,),), {one: 1}, (one, None), ((one, two),)]
        found += not_ascending((one, two)) + [((1, 1), (1, 2)), ((3, 1), (1, 2))]
        # Not strictly between 0 and goal; no such price.
        found += [((t, 1),) for t in (0, 7, 8, -1, True, None, '1', GREAT, (1,))]
        found += [((1, price),) for price in (-1, 1000, True, False, None, '1', GREAT, (1,), [1])]
        found += [((value, 1),) for value in any_values() if value.__class__ is not int or not 0 < value < 7]
        found += [((1, value),) for value in any_values() if value.__class__ is not int or not 0 <= value <= 999]
        found += [[[0, -1]], ((3, -1), (1, 2)), tuple((t, 0) for t in range(1, 7)) + ((7, 0),)]
        for offers in found:
            before = copy.deepcopy(offers)
            for demands, caps in (((), ()), ([], ()), ((), []), ('x', 'y')):
                for value in self.of_prices(BadOffers, 7, offers, demands, caps):
                    self.assertIs(value, offers)
            self.assertEqual(repr_of(offers), repr_of(before))

    def test_bad_demands(self):
        one, two = ('a', 'd', 6), ('b', 'd', 2)
        found = [value for value in any_values() if value != ()] + not_ascending((one, two))
        found += [[one], (list(one),), (('a', 'a', 1),), (('a', 'd', 0),), (('a', 'd', True),), (('a', 'z', 1),)]
        for demands in found:
            for caps in ((), [], CAPS, 'x'):
                values = self.of_steps(BadDemands, 7, demands, caps)
                for value in values + self.of_prices(BadDemands, 7, OFFERS, demands, caps):
                    self.assertIs(value, demands)

    def test_bad_caps(self):
        for caps in self.bad_caps():
            before = copy.deepcopy(caps)
            with self.subTest(caps=caps):
                for demands in ((), DEMANDS):
                    values = self.of_steps(BadCaps, 7, demands, caps)
                    for value in values + self.of_prices(BadCaps, 7, OFFERS, demands, caps):
                        self.assertIs(value, caps)
            self.assertEqual(repr_of(caps), repr_of(before))

    def test_results_as_arguments(self):
        stops, price = LINE.cheapest(7, OFFERS)[1:3]
        self.assertEqual(LINE.cheapest(7, tuple((t, price) for t in stops))[2], 2 * price)
        self.assertEqual(LINE.cheapest(LINE.classes(7)[-1][1], OFFERS), LINE.cheapest(7, OFFERS))
        value = worst(SQUARE, LINE.at(2), DEMANDS)
        caps = tuple((a, b, load[0]) for a, b, load, _ in value)
        self.assertEqual(LINE.steps(2, DEMANDS, caps)[0], 'steps')
        self.raised(BadCaps, LINE.steps, 2, DEMANDS, value)
        self.raised(BadOffers, LINE.cheapest, 7, LINE.classes(7))


if __name__ == '__main__':
    unittest.main()
