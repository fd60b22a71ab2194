"""The whole document once more: what it says of several modules together, each fact on drawn nets."""

import doctest
import inspect
import random
import unittest
from fractions import Fraction
from itertools import permutations

import test_desk
import test_falls
import test_judging
import test_lines
import test_loads
import test_rounds
import test_shifts
import test_steps
import test_tables
import test_texts
import test_wanted
import test_yard
from plain_yard import seen
from quietturns.desk import Desk
from quietturns.errors import NetError, NotNow, Turned, Turning
from quietturns.falls import alternates, falls, losers, way_back
from quietturns.journals import read_journal
from quietturns.judging import judged, shows_judged
from quietturns.lines import Line
from quietturns.loads import loads, moment_loads, worst
from quietturns.nets import Net
from quietturns.rounds import rounds, shows_rounds
from quietturns.shifts import free_range, point, points, shifted, stretch
from quietturns.steps import shows_steps, steps
from quietturns.tables import alike, distance, nexts, ways
from quietturns.texts import read_net, read_run, show_net, show_run
from quietturns.wanted import shows_wanted, wanted
from quietturns.yard import Yard
from search import subsets, tables_of
from support import EIGHT, SQUARE, Case, any_values, changed, full_net, great_net, repr_of, some_demands, some_nets
from support import some_pairs

MODULES = (test_tables, test_judging, test_shifts, test_steps, test_rounds, test_loads, test_lines, test_falls,
           test_wanted, test_yard, test_texts, test_desk)


def one_change(source, net):
    """The net with one of its links taken out or with other lengths, and the event that makes it."""
    a, b, there, back = source.choice(net.links)
    if source.randint(0, 1) == 0:
        return net.without(a, b), ('out', a, b)
    there, back = source.randint(1, 9), source.randint(1, 9)
    return net.with_link(a, b, there, back), ('set', a, b, there, back)


def nets_with_links(many, seed):
    """Drawn nets that have links, and as many on which these go round."""
    nets = [net for net in some_nets(2 * many, most_routers=5, most_links=7, seed=seed) if net.links][:many]
    return nets + [line.net for line in test_lines.round_lines(many, seed)]


class Examples(unittest.TestCase):

    def test_all_examples_together(self):
        # One after the other, with the names of those before.
        text = '\n'.join([module.EXAMPLE for module in MODULES])
        test = doctest.DocTestParser().get_doctest(text, {}, 'all examples', None, 0)
        self.assertEqual(len(test.examples), 60)
        self.assertEqual(doctest.DocTestRunner().run(test).failed, 0)


class Playing(Case):

    def wander(self, source, yard, many, told=()):
        """Draws events of the packets, and lets those told learn; no packet that has been sent on is lost."""
        for _ in range(many):
            events = [event for event in yard.now if event[0] != 'learn' or event[1] in told]
            if events:
                self.does(yard, source.choice(events))

    def does(self, yard, event):
        if event[0] == 'drop':
            # Only one that is still where it was sent.
            self.assertEqual(len(yard[event[1]]), 1)
        yard.do(event)

    def empty(self, source, yard):
        """Brings all packets to where they are sent, or drops those that are still where they were sent."""
        while yard.now and any(event[0] in ('hop', 'drop') for event in yard.now):
            self.does(yard, source.choice([event for event in yard.now if event[0] in ('hop', 'drop')]))

    def learn_all(self, yard):
        """Lets all routers learn all there is."""
        while any(event[0] == 'learn' for event in yard.now):
            yard.do(yard.now[[event[0] for event in yard.now].index('learn')])

    def test_what_is_judged_is_played(self):
        source, found = random.Random(121), {}
        for net in nets_with_links(160, 121):
            new, event = one_change(source, net)
            value = judged(net, new)
            found[value[0]] = found.get(value[0], 0) + 1
            yard = Yard(net, strict=value[0] == 'quiet')
            yard.do(event)
            if value[0] == 'quiet':
                self.wander(source, yard, 40, net.routers)
                self.empty(source, yard)
                continue
            word, d, row, moment = value
            for router in moment:
                yard.do(('learn', router))
            yard(row[0], d)
            for router in row[1:] + row[:1] * (word == 'turns'):
                yard[0] = router
            if word == 'turns':
                self.assertEqual(yard.turned, ((0, row[0]),))
            else:
                yard.do(('drop', 0))
                self.assertEqual([yard.lost, yard[0]], [(0,), row])
        self.assertGreater(min(found.get(word, 0) for word in ('turns', 'lost', 'quiet')), 10)

    def test_steps_are_played(self):
        source, many = random.Random(122), 0
        for net in nets_with_links(30, 122) + [SQUARE] * 3:
            a, b, there, back = source.choice(net.links)
            start, goal = source.choice([(0, 12), (12, 0), (0, 5), (3, 9)])
            stops = steps(net, a, b, start, goal)[1]
            many += len(stops)
            yard = Yard(shifted(net, a, b, start), strict=True)
            for t in (*stops, goal):
                yard.do(('set', a, b, there + t, back + t))
                self.wander(source, yard, 25, net.routers)
                self.learn_all(yard)
                self.empty(source, yard)
            self.assertEqual(yard.net, shifted(net, a, b, goal))
            self.assertEqual([yard.turned, yard.told()], [(), True])
        self.assertGreater(many, 10)

    def test_the_link_taken_out_in_steps(self):
        source = random.Random(123)
        for net, a, b in ((SQUARE, 'c', 'd'), (SQUARE, 'a', 'b'), (SQUARE, 'b', 'c')):
            yard = Yard(net, strict=True)
            for t in steps(net, a, b, 0, None)[1]:
                yard.do(('set', a, b, 1 + t, 1 + t))
                self.wander(source, yard, 30, net.routers)
                self.learn_all(yard)
                self.empty(source, yard)
            yard.do(('out', a, b))
            self.wander(source, yard, 40, net.routers)
            self.learn_all(yard)
            self.empty(source, yard)
            self.assertEqual([yard.turned, yard.net], [(), net.without(a, b)])

    def test_rings_are_played(self):
        source, many = random.Random(124), 0
        for net in nets_with_links(40, 124) + [SQUARE]:
            a, b, there, back = source.choice(net.links)
            for d, ring, (low, high) in steps(net, a, b, 1 - min(there, back), 20)[2]:
                many += 1
                self.assertEqual(stretch(net, a, b, d, ring), (low, high))
                for start, goal in ((low, high), (high, low)):
                    old, new = shifted(net, a, b, start), shifted(net, a, b, goal)
                    moment = tuple(sorted(router for at, router in enumerate(ring)
                                          if ring[(at + 1) % len(ring)] not in nexts(old, router, d)))
                    self.assertIs(shows_judged(old, new, ('turns', d, ring, moment)), True)
                    yard = Yard(old)
                    yard.do(('set', a, b, there + goal, back + goal))
                    for router in moment:
                        yard.do(('learn', router))
                    yard(ring[0], d)
                    for router in ring[1:] + ring[:1]:
                        yard[0] = router
                    self.assertEqual(yard.turned, ((0, ring[0]),))
        self.assertGreater(many, 10)

    def test_steps_by_one_are_quiet(self):
        for net in nets_with_links(20, 125):
            a, b, there, back = net.links[0]
            for t in range(1 - min(there, back), 8):
                for pair in ((t, t + 1), (t + 1, t)):
                    self.assertEqual(steps(net, a, b, *pair), ('steps', (), ()))
                    self.assertNotEqual(judged(shifted(net, a, b, pair[0]), shifted(net, a, b, pair[1]))[0], 'turns')

    def test_rounds_are_played(self):
        source, many = random.Random(126), {}
        for net in nets_with_links(40, 126) + [SQUARE] * 2:
            new, event = one_change(source, net)
            word, told = rounds(net, new)
            if word == 'none':
                continue
            many[len(told)] = many.get(len(told), 0) + 1
            yard = Yard(net, strict=True)
            yard.do(event)
            for each in told:
                self.wander(source, yard, 15)
                self.wander(source, yard, 25, each)
                for router in each:
                    if ('learn', router) in yard.now:
                        yard.do(('learn', router))
                self.empty(source, yard)
            self.assertIs(yard.told(), True)
        self.assertGreater(len(many), 1)

    def test_ranks_fall_along_every_hop(self):
        source = random.Random(127)
        for net in nets_with_links(30, 127):
            new, event = one_change(source, net)
            value = judged(net, new)
            if value[0] == 'quiet':
                yard = Yard(net)
                yard.do(event)
                self.wander(source, yard, 40, net.routers)
                d_of = {at: sent[2] for at, sent in enumerate(each for each in yard.events if each[0] == 'send')}
                for packet in range(yard.many):
                    row = value[1][net.routers.index(d_of[packet])]
                    ranks = [row[net.routers.index(router)] for router in yard[packet]]
                    self.assertEqual(ranks, sorted(set(ranks), reverse=True))

    def test_lines_of_one_link_are_played(self):
        source, many = random.Random(128), 0
        for net in nets_with_links(25, 128) + [SQUARE] * 2:
            a, b, there, back = source.choice(net.links)
            line = Line(net, ((a, b, 1),))
            word, stops, _ = line.steps(10)
            self.assertEqual(len(stops), len(steps(net, a, b, 0, 10)[1]))
            offers = tuple((t, source.randint(0, 9)) for t in range(1, 10))
            cheap = line.cheapest(10, offers)[1]
            for row in (stops, cheap):
                many += len(row)
                yard = Yard(net, strict=True)
                for t in (*row, 10):
                    yard.do(('set', a, b, there + t, back + t))
                    self.wander(source, yard, 25, net.routers)
                    self.learn_all(yard)
                    self.empty(source, yard)
                self.assertEqual([yard.net, yard.turned], [line.at(10), ()])
        self.assertGreater(many, 10)

    def test_falls_are_played(self):
        source, found = random.Random(129), {}
        for net in nets_with_links(30, 129) + [SQUARE]:
            for a, b, word in falls(net):
                found[word] = found.get(word, 0) + 1
                new = net.without(a, b)
                self.assertEqual(word == 'turns', judged(net, new)[0] == 'turns')
                if word != 'turns':
                    yard = Yard(net, strict=True)
                    yard.do(('out', a, b))
                    for _ in range(30):
                        if yard.now:
                            yard.do(source.choice(yard.now))
                for router, d in losers(net, a, b):
                    self.assertIsNotNone(self.way_to_the_link(net, a, b, router, d))
                for end, d, found_there in alternates(net, a, b):
                    for n in [n for n in net.routers if net.length(end, n) is not None and n not in (a, b)]:
                        row = way_back(net, a, b, end, d, n)
                        self.assertEqual(row is None, n in found_there)
                        if row is not None:
                            yard = Yard(net)
                            yard(n, d)
                            for router in row[1:]:
                                yard[0] = router
        self.assertGreater(min(found.values()), 5)

    def way_to_the_link(self, net, a, b, router, d):
        """A way that a packet can go on to the link, played: by the net, or where a router has learnt without it."""
        waiting, reached = [(router,)], set()
        while waiting:
            row = waiting.pop()
            following = set(nexts(net, row[-1], d)) | set(nexts(net.without(a, b), row[-1], d))
            for end, other in ((a, b), (b, a)):
                if row[-1] == end and other in nexts(net, end, d):
                    return row
            waiting += [row + (n,) for n in following if n not in reached]
            reached |= following
        return None


class Together(Case):

    def test_worst_loads_against_moments(self):
        source, many = random.Random(131), 0
        for old, new in some_pairs(100, most_routers=5, seed=131):
            if judged(old, new)[0] == 'turns':
                self.raised(Turning, worst, old, new, ())
                continue
            demands = some_demands(source, old.routers, 5)
            most = {}
            for moment in subsets(old.routers):
                for a, b, load in moment_loads(old, new, moment, demands):
                    most[a, b] = max(Fraction(*load), most.get((a, b), 0))
            value = worst(old, new, demands)
            many += len(value)
            self.assertEqual({row[:2]: Fraction(*row[2]) for row in value}, most)
            for a, b, load, moment in value:
                self.assertIn((a, b, load), moment_loads(old, new, moment, demands))
            self.assertEqual(moment_loads(old, new, (), demands), loads(old, demands))
            self.assertEqual(moment_loads(old, new, new.routers, demands), loads(new, demands))
        self.assertGreater(many, 100)

    def test_caps_against_worst_loads(self):
        source = random.Random(132)
        for net in nets_with_links(25, 132):
            line = Line(net, tuple(link[:2] + (1,) for link in net.links[:2]))
            demands = some_demands(source, net.routers, 4)
            if judged(net, line.at(3))[0] != 'turns':
                for a, b, (num, den), _ in worst(net, line.at(3), demands):
                    cap = -(-num // den)
                    self.assertEqual(line.steps(3, demands, ((a, b, cap),))[:2], ('steps', ()))
                    self.assertEqual(line.cheapest(3, (), demands, ((a, b, cap),))[:3], ('stops', (), 0))
                    self.assertEqual(line.cheapest(3, (), demands, ((a, b, (num - 1) // den),))[0], 'none')

    def test_wanted_ways_are_shortest_ways(self):
        source, many = random.Random(133), 0
        for net in nets_with_links(30, 133):
            rows = [row for size in (2, 3) for row in permutations(net.routers, size)
                    if all(net.length(a, n) is not None for a, n in zip(row, row[1:]))]
            rows = tuple(sorted(source.sample(rows, min(4, len(rows)))))
            word, found = wanted(net, rows)
            if word == 'lengths':
                many += 1
                other = Net(net.routers, found)
                for row in rows:
                    length = sum(other.length(a, n) for a, n in zip(row, row[1:]))
                    self.assertEqual(length, distance(other, row[0], row[-1]))
                    self.assertGreater(ways(other, row[0], row[-1]), 0)
                    yard = Yard(other)
                    yard(row[0], row[-1])
                    for router in row[1:]:
                        yard[0] = router
                    self.assertEqual(yard.arrived, (0,))
        self.assertGreater(many, 20)

    def test_classes_against_tables(self):
        for net in nets_with_links(20, 134):
            line = Line(net, tuple(link[:2] + (2,) for link in net.links[:2]))
            spans = line.classes(12)
            for first, last in spans:
                self.assertIsNone(alike(line.at(first), line.at(last)))
                if last < 12:
                    self.assertIsNotNone(alike(line.at(last), line.at(last + 1)))
            a, b = net.links[0][:2]
            least, greatest = free_range(net, a, b)
            first = Line(net, ((a, b, 1),)).classes(30)[0][1]
            self.assertEqual(first, 30 if greatest is None else min(greatest, 30))

    def test_everything_of_a_run_in_texts(self):
        source = random.Random(135)
        for net in nets_with_links(20, 135):
            yard = Yard(net)
            for _ in range(30):
                if source.randint(0, 5) == 0:
                    yard.do(one_change_event(source, yard.net))
                if yard.now:
                    yard.do(source.choice(yard.now))
            self.assertEqual(yard.journal, '\n'.join([show_net(net), 'run', show_run(yard.events)]))
            self.assertEqual(seen(read_journal(yard.journal)), seen(yard))
            self.assertEqual([read_net(show_net(net)), read_run(show_run(yard.events))], [net, yard.events])
            desk = Desk(Yard(net).journal)
            for row in show_run(yard.events).split('\n'):
                desk.say(row)
            self.assertEqual(desk.yard, yard)
            self.assertEqual(desk.say('judged'), judged_in(yard))


def one_change_event(source, net):
    """An event that changes one of the links that the net has, a learn event without any."""
    if not net.links:
        return ('learn', net.routers[0])
    a, b = source.choice(net.links)[:2]
    return ('set', a, b, source.randint(1, 9), source.randint(1, 9))


def judged_in(yard):
    """What is judged of the oldest net that a router knows and the newest one."""
    nets = [yard.known(router) for router in yard.net.routers]
    found = {judged(net, yard.net)[0] for net in nets}
    # Nets that are equal may stand at several places, so the oldest one is looked for by the run.
    twin = yard.copy()
    learnt = [sum(event == ('learn', router) for event in yard.events) for router in yard.net.routers]
    while sum(event[0] in ('set', 'out') for event in twin.events) > min(learnt):
        twin.back()
    word = judged(twin.net, yard.net)[0]
    assert word in found
    return word


class PassedBack(Case):
    """Results of one function, changed and not, as arguments of others."""

    def results(self):
        """Some results of all functions."""
        out, line = SQUARE.without('c', 'd'), Line(SQUARE, (('c', 'd', 1),))
        yard = Yard(SQUARE)
        for event in test_yard.RUN:
            yard.do(event)
        demands, caps, rows = (('a', 'd', 6),), (('a', 'd', 3),), (('a', 'b', 'c', 'd'), ('a', 'd'))
        return [
            judged(SQUARE, out), judged(SQUARE, SQUARE), points(SQUARE, 'c', 'd'),
            stretch(SQUARE, 'c', 'd', 'd', ('a', 'b')), free_range(SQUARE, 'c', 'd'), steps(SQUARE, 'c', 'd', 0, None),
            rounds(SQUARE, out), loads(SQUARE, demands), moment_loads(SQUARE, out, ('a',), demands),
            worst(SQUARE, line.at(2), demands), line.classes(7), line.steps(7), line.steps(7, demands, caps),
            line.cheapest(7, ((1, 1), (3, 5), (5, 2))), falls(SQUARE), losers(SQUARE, 'c', 'd'),
            alternates(SQUARE, 'c', 'd'), way_back(SQUARE, 'c', 'd', 'c', 'd', 'b'), wanted(SQUARE, rows),
            wanted(SQUARE, rows[:1]), yard.now, yard.events, yard.turned, yard.journal, yard[0], SQUARE.links, SQUARE,
            distance(SQUARE, 'a', 'd'), ways(SQUARE, 'a', 'd'), nexts(SQUARE, 'a', 'd'), alike(SQUARE, out),
        ]

    def test_any_result_in_place_of_any_argument(self):
        values = self.results() + any_values()
        for value in self.results():
            values += list(changed(value))[:12]
        yard, desk = Yard(SQUARE), Desk(Yard(SQUARE).journal)
        out, line = SQUARE.without('c', 'd'), Line(SQUARE, (('c', 'd', 1),))
        calls = [
            lambda each: SQUARE.length(each, 'a'), lambda each: SQUARE.with_link('a', 'b', each, 1),
            lambda each: Net(each, ()), lambda each: Net(SQUARE.routers, each), lambda each: SQUARE.without(each, 'd'),
            lambda each: distance(SQUARE, each, 'a'), lambda each: nexts(SQUARE, 'a', each),
            lambda each: ways(SQUARE, each, each), lambda each: shifted(SQUARE, 'c', 'd', each),
            lambda each: point(SQUARE, 'c', 'd', each, 'd'), lambda each: stretch(SQUARE, 'c', 'd', 'd', each),
            lambda each: steps(SQUARE, 'c', 'd', 0, each), lambda each: loads(SQUARE, each),
            lambda each: moment_loads(SQUARE, out, each, ()), lambda each: moment_loads(SQUARE, out, (), each),
            lambda each: worst(SQUARE, SQUARE, each), lambda each: Line(SQUARE, each),
            lambda each: line.steps(3, each), lambda each: line.steps(3, (), each),
            lambda each: line.cheapest(9, each), lambda each: line.at(each), lambda each: losers(SQUARE, 'c', each),
            lambda each: way_back(SQUARE, 'c', 'd', each, 'd', 'b'),
            lambda each: way_back(SQUARE, 'c', 'd', 'c', 'd', each), lambda each: wanted(SQUARE, each), read_net,
            read_run, show_run, read_journal, Desk, Yard, yard.do, lambda each: yard[each],
            lambda each: yard(each, 'd'), yard.known, desk.say, lambda each: yard.__setitem__(0, each),
            lambda each: steps(SQUARE, each, 'd', 0, 1),
        ]
        shows = [
            lambda each: shows_judged(SQUARE, out, each), lambda each: shows_steps(SQUARE, 'c', 'd', 0, None, each),
            lambda each: shows_rounds(SQUARE, out, each), lambda each: line.shows_steps(7, each),
            lambda each: line.shows_cheapest(7, ((1, 1), (3, 5), (5, 2)), each), lambda each: each in yard,
            lambda each: shows_wanted(SQUARE, (('a', 'b', 'c', 'd'), ('a', 'd')), each),
        ]
        for value in values:
            before = repr_of(value)
            for call in calls:
                # The package's own errors, and no others.
                try:
                    call(value)
                except NetError:
                    pass
            for call in shows:
                self.assertIn(repr(call(value)), ('True', 'False'))
            self.assertEqual(repr_of(value), before)

    def test_results_show_themselves(self):
        line, out = Line(SQUARE, (('c', 'd', 1),)), SQUARE.without('c', 'd')
        rows = (('a', 'b', 'c', 'd'), ('a', 'd'))
        for value, call in ((judged(SQUARE, out), lambda each: shows_judged(SQUARE, out, each)),
                            (steps(SQUARE, 'c', 'd', 0, None),
                             lambda each: shows_steps(SQUARE, 'c', 'd', 0, None, each)),
                            (rounds(SQUARE, out), lambda each: shows_rounds(SQUARE, out, each)),
                            (line.steps(7), lambda each: line.shows_steps(7, each)),
                            (line.cheapest(7, ()), lambda each: line.shows_cheapest(7, (), each)),
                            (wanted(SQUARE, rows), lambda each: shows_wanted(SQUARE, rows, each))):
            self.assertIs(call(value), True)
            # Those of the others are not right ones here.
            for other in self.results():
                if repr_of(other) != repr_of(value) and isinstance(other, tuple) and other[:1] != value[:1]:
                    self.assertIs(call(other), False)


class ByName(Case):

    def test_all_arguments_by_their_names(self):
        out, line = SQUARE.without(a='c', b='d'), Line(net=SQUARE, rates=(('c', 'd', 1),))
        demands, rows = (('a', 'd', 6),), (('a', 'b', 'c', 'd'),)
        yard = Yard(net=SQUARE, strict=False)
        found = [
            (Net, (SQUARE.routers, SQUARE.links)), (SQUARE.length, ('a', 'b')), (SQUARE.with_link, ('a', 'b', 1, 1)),
            (SQUARE.without, ('a', 'b')), (distance, (SQUARE, 'a', 'd')), (ways, (SQUARE, 'a', 'd')),
            (nexts, (SQUARE, 'a', 'd')), (alike, (SQUARE, out)), (judged, (SQUARE, out)),
            (shows_judged, (SQUARE, out, None)), (shifted, (SQUARE, 'c', 'd', 1)),
            (point, (SQUARE, 'c', 'd', 'a', 'd')), (points, (SQUARE, 'c', 'd')),
            (stretch, (SQUARE, 'c', 'd', 'd', ('a', 'b'))), (free_range, (SQUARE, 'c', 'd')),
            (steps, (SQUARE, 'c', 'd', 0, 9)), (shows_steps, (SQUARE, 'c', 'd', 0, 9, ())), (rounds, (SQUARE, out)),
            (shows_rounds, (SQUARE, out, None)), (loads, (SQUARE, demands)),
            (moment_loads, (SQUARE, out, (), demands)), (worst, (SQUARE, SQUARE, demands)),
            (Line, (SQUARE, (('a', 'b', 1),))), (line.at, (3,)), (line.classes, (3,)), (line.steps, (7, demands, ())),
            (line.shows_steps, (7, None, demands, ())), (line.cheapest, (7, (), demands, ())),
            (line.shows_cheapest, (7, (), None, demands, ())), (falls, (SQUARE,)), (losers, (SQUARE, 'c', 'd')),
            (alternates, (SQUARE, 'c', 'd')), (way_back, (SQUARE, 'c', 'd', 'c', 'd', 'b')), (wanted, (SQUARE, rows)),
            (shows_wanted, (SQUARE, rows, None)), (show_net, (SQUARE,)), (read_net, (show_net(SQUARE),)),
            (show_run, ((),)), (read_run, ('',)), (yard.known, ('a',)), (read_journal, (yard.journal,)),
            (Desk(text=yard.journal).say, ('now',)),
        ]
        for call, passed in found:
            names = list(inspect.signature(call).parameters)
            before = repr_of(passed)
            one = call(*passed)
            other = call(**dict(zip(names, passed)))
            self.assertEqual(repr_of(one) if not isinstance(one, (Line, Yard)) else one == other,
                             repr_of(other) if not isinstance(one, (Line, Yard)) else True)
            self.assertEqual(repr_of(passed), before)
            # In any order.
            self.assertIs(call(**dict(list(zip(names, passed))[::-1])).__class__, one.__class__)


class Greatest(Case):

    def test_nets_of_8_routers_and_16_links(self):
        source = random.Random(141)
        for net in (full_net(), great_net(1, 9), great_net(2, 10 ** 9)):
            a, b, there, back = net.links[5]
            new = net.with_link(a, b, there + 3, back + 3)
            demands = some_demands(source, EIGHT, 12, 999)
            self.assertIs(shows_judged(net, new, judged(net, new)), True)
            self.assertIs(shows_rounds(net, new, rounds(net, new)), True)
            self.assertIs(shows_steps(net, a, b, 0, None, steps(net, a, b, 0, None)), True)
            self.assertEqual(len(falls(net)), 16)
            line = Line(net, tuple(link[:2] + (3,) for link in net.links))
            self.assertIs(line.shows_steps(99, line.steps(99, demands), demands), True)
            yard = Yard(net, strict=True)
            yard.do(('set', a, b, there + 3, back + 3))
            for _ in range(200):
                try:
                    yard.do(source.choice(yard.now))
                except Turned:
                    self.assertEqual(judged(net, new)[0], 'turns')
            text = yard.journal
            if max(max(link[2:]) for link in (*net.links, *new.links)) < 10 ** 9:
                self.assertEqual(read_journal(text), yard)
            self.assertEqual(tables_of(net), {(router, d): nexts(net, router, d) for router in EIGHT for d in EIGHT})
            self.raised(NotNow, yard.do, ('drop', 999))


if __name__ == '__main__':
    unittest.main()
