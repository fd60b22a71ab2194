"""Section 14, and G6."""

import copy
import itertools
import random
import unittest

from plain_yard import PlainYard, drawn_event, drawn_run, is_event_of, seen
from quietturns.errors import BadEvent, BadNet, NoPacket, NoRouter, NothingToUndo, NotNow, Ring, Turned
from quietturns.nets import Net
from quietturns.yard import Yard
from support import GREAT, SQUARE, Case, any_values, changed, full_net, great_net, repr_of, some_nets

EXAMPLE = """
>>> from quietturns.nets import Net
>>> net = Net(('a', 'b', 'c', 'd'), (('a', 'b', 1, 1), ('a', 'd', 5, 5), ('b', 'c', 1, 1), ('c', 'd', 1, 1)))
>>> from quietturns.yard import Yard
>>> yard = Yard(net)
>>> [yard.do(('out', 'c', 'd')), yard.do(('learn', 'b')), yard('a', 'd'), yard.do(('hop', 0, 'b')), yard.do(('hop', 0, 'a'))]
[None, None, 0, None, None]
>>> [yard[0], yard.turned, yard.told(), 0 in yard]
[('a', 'b', 'a'), ((0, 'a'),), False, True]
"""
# The link c d is out; b knows it, the others do not. Packet 0 has turned, 1 has arrived, 2 has not moved.
RUN = (('out', 'c', 'd'), ('learn', 'b'), ('send', 'a', 'd'), ('hop', 0, 'b'), ('hop', 0, 'a'), ('send', 'b', 'a'),
       ('hop', 1, 'a'), ('send', 'c', 'a'))
OUT = SQUARE.without('c', 'd')
# What is passed for keep, if anything; only True itself keeps.
KEEPS = ({}, {'keep': False}, {'keep': True}, {'keep': 1}, {'keep': 'yes'}, {'keep': None})
CHAIN = Net(('a', 'b', 'c'), (('a', 'b', 1, 1), ('b', 'c', 1, 1)))


def played(net, run, strict=False):
    """A yard with this run."""
    yard = Yard(net, strict=strict)
    for event in run:
        yard.do(event)
    return yard


def entered(by, yard, keep, look):
    """What look returns in a trial: by trial, by tried, or by this context manager."""
    if by == 'tried':
        return yard.tried(look, **keep)
    with yard.trial(**keep) if by == 'trial' else by as same:
        return look(same)


class YardCase(Case):

    def same(self, yard, plain):
        """Expects of a yard all that one of the tests' own shows."""
        found = seen(yard)
        self.assertEqual(found, plain.seen())
        self.assertEqual(repr_of(found['events']), repr_of(tuple(plain.run)))

    def refuses(self, yard, kind, call, *passed, **named):
        """Expects the error, and the yard as it was; returns the error."""
        before = seen(yard)
        error = self.raised(kind, call, *passed, **named)
        self.assertEqual(seen(yard), before)
        return error


class Making(YardCase):

    def test_the_example(self):
        self.example(EXAMPLE, 6)

    def test_a_new_yard(self):
        for net in some_nets(30, seed=91) + [SQUARE, full_net(), great_net(1)]:
            yard = Yard(net)
            self.same(yard, PlainYard(net))
            self.assertEqual([yard.many, yard.events, yard.turned, yard.lost, yard.arrived], [0, (), (), (), ()])
            self.assertIs(yard.told(), True)

    def test_strict_of_any_value(self):
        for value in any_values() + [1, 'True', (True,), [True]]:
            if value is not True:
                yard = played(SQUARE, RUN, value)
                self.assertEqual(yard.turned, ((0, 'a'),))
                self.assertIn('\nrun\n', yard.journal)
        self.raised(Turned, played, SQUARE, RUN, True)
        self.assertEqual(Yard(SQUARE, strict=True).journal[-7:], '\nstrict')
        self.assertEqual(Yard(net=SQUARE).journal[-4:], '\nrun')

    def test_bad_net(self):
        for value in any_values():
            if not isinstance(value, Net):
                before = copy.deepcopy(value)
                for strict in (True, False, None):
                    self.assertIs(self.raised(BadNet, Yard, value, strict=strict).value, value)
                self.assertEqual(repr_of(value), repr_of(before))
        self.assertIs(self.raised(BadNet, Yard, net=None).value, None)
        pair = (SQUARE.routers, SQUARE.links)
        self.assertIs(self.raised(BadNet, Yard, pair).value, pair)

    def test_strict_is_passed_by_name(self):
        with self.assertRaises(TypeError):
            Yard(SQUARE, True)


class Doing(YardCase):

    def test_drawn_runs(self):
        source = random.Random(92)
        words = {}
        for net in some_nets(25, 5, 8, seed=92) + [SQUARE] * 5 + [CHAIN] * 3 + [full_net(), great_net(1, 9)]:
            for strict in (False, True):
                yard, plain = Yard(net, strict=strict), PlainYard(net, strict)
                for _ in range(40):
                    words[self.step(source, yard, plain)] = True
        self.assertEqual(sorted(words), ['NotNow', 'Turned', 'drop', 'hop', 'learn', 'out', 'send', 'set'])

    def step(self, source, yard, plain):
        """Does a drawn event in both; returns its word, or the name of the error."""
        event = drawn_event(source, plain)
        if not plain.can(event):
            self.assertIs(self.refuses(yard, NotNow, yard.do, event).event, event)
            return 'NotNow'
        ring = plain.ring(event) if plain.strict else None
        if ring:
            error = self.refuses(yard, Turned, yard.do, event)
            self.assertEqual([error.packet, error.router, error.__cause__.ring], [event[1], event[2], ring])
            return 'Turned'
        number = yard.do(event)
        self.assertEqual(number, plain.seen()['many'] if event[0] == 'send' else None)
        plain.run.append(event)
        self.same(yard, plain)
        return event[0]

    def test_all_events_that_cannot_happen(self):
        source, many = random.Random(93), 0
        for net in some_nets(6, 4, 6, seed=93) + [SQUARE]:
            plain = drawn_run(source, net, 25)
            yard = played(net, plain.run)
            packets = range(plain.seen()['many'] + 2)
            events = [('learn', a) for a in net.routers] + [('drop', packet) for packet in packets]
            events += [('send', a, d) for a in net.routers for d in net.routers]
            events += [('hop', packet, a) for packet in packets for a in net.routers]
            events += [('out', a, b) for a in net.routers for b in net.routers if a < b]
            events += [('set', a, b, 3, 1) for a in net.routers for b in net.routers if a < b]
            for event in events:
                if not plain.can(event):
                    many += 1
                    self.assertIs(self.refuses(yard, NotNow, yard.do, event).event, event)
                else:
                    yard.do(event)
                    self.assertEqual(yard.events[-1], event)
                    yard.back()
            self.same(yard, plain)
        self.assertGreater(many, 200)

    def test_set(self):
        yard = Yard(SQUARE)
        yard.do(('set', 'a', 'b', 1, 1))
        # To the same lengths: an equal net, which is learnt all the same.
        self.assertEqual(yard.net, SQUARE)
        self.assertIs(yard.told(), False)
        self.assertIn(('learn', 'a'), yard.now)
        yard.do(('set', 'a', 'b', 7, GREAT))
        self.assertEqual(yard.net, SQUARE.with_link('a', 'b', 7, GREAT))
        # A link that is out, and again.
        yard.do(('out', 'c', 'd'))
        yard.do(('set', 'c', 'd', 2, 3))
        self.assertEqual(yard.net, SQUARE.with_link('a', 'b', 7, GREAT).with_link('c', 'd', 2, 3))
        # No link of the net at the beginning.
        event = ('set', 'a', 'c', 1, 1)
        self.assertIs(self.refuses(yard, NotNow, yard.do, event).event, event)
        full = full_net()
        yard = Yard(full)
        for a, b, _, _ in full.links:
            yard.do(('set', a, b, 5, 5))
        self.assertEqual(len(yard.net.links), 16)

    def test_out(self):
        yard = Yard(SQUARE)
        yard.do(('out', 'c', 'd'))
        self.assertEqual(yard.net, OUT)
        self.refuses(yard, NotNow, yard.do, ('out', 'c', 'd'))
        self.refuses(yard, NotNow, yard.do, ('out', 'a', 'c'))
        for a, b in (('a', 'b'), ('a', 'd'), ('b', 'c')):
            yard.do(('out', a, b))
        self.assertEqual(yard.net, Net(SQUARE.routers, ()))
        self.assertEqual(len(yard.events), 4)

    def test_learning_one_by_one(self):
        yard, nets = Yard(SQUARE), [SQUARE]
        for length in (2, 3, 4):
            yard.do(('set', 'a', 'b', length, 1))
            nets.append(yard.net)
        for net, following in zip(nets, nets[1:]):
            self.assertEqual(yard.known('b'), net)
            yard.do(('learn', 'b'))
            self.assertEqual([yard.known('b'), yard.known('a')], [following, SQUARE])
        self.assertNotIn(('learn', 'b'), yard.now)
        self.refuses(yard, NotNow, yard.do, ('learn', 'b'))
        self.refuses(Yard(SQUARE), NotNow, Yard(SQUARE).do, ('learn', 'a'))

    def test_send(self):
        yard = Yard(SQUARE)
        for many, (a, d) in enumerate((('a', 'd'), ('d', 'a'), ('a', 'd'), ('b', 'c'))):
            self.assertEqual(yard.do(('send', a, d)), many)
            self.assertEqual([yard[many], yard.many], [(a,), many + 1])
        self.refuses(yard, NotNow, yard.do, ('send', 'a', 'a'))
        lonely = Yard(Net(('a', 'b', 'c'), (('a', 'b', 1, 1),)))
        self.refuses(lonely, NotNow, lonely.do, ('send', 'a', 'c'))
        self.refuses(lonely, NotNow, lonely.do, ('send', 'c', 'a'))

    def test_a_packet_at_its_destination(self):
        yard = played(SQUARE, (('send', 'a', 'b'), ('hop', 0, 'b')))
        self.assertEqual([yard.arrived, yard.lost, 0 in yard, yard[0]], [(0,), (), False, ('a', 'b')])
        for event in (('hop', 0, 'a'), ('hop', 0, 'c'), ('hop', 0, 'b'), ('drop', 0)):
            self.refuses(yard, NotNow, yard.do, event)
        self.assertIs(yard.told(), True)

    def test_a_packet_where_there_is_no_next_router(self):
        yard = played(CHAIN, (('out', 'b', 'c'), ('send', 'a', 'c'), ('hop', 0, 'b'), ('learn', 'b')))
        self.assertEqual(yard.now, (('drop', 0), ('learn', 'a'), ('learn', 'c'), ('send', 'a', 'b'), ('send', 'a', 'c'),
                                    ('send', 'b', 'a'), ('send', 'c', 'a'), ('send', 'c', 'b')))
        self.refuses(yard, NotNow, yard.do, ('hop', 0, 'c'))
        self.assertIsNone(yard.do(('drop', 0)))
        self.assertEqual([yard.lost, yard.arrived, 0 in yard, yard[0], yard.many], [(0,), (), False, ('a', 'b'), 1])
        for event in (('drop', 0), ('hop', 0, 'a'), ('hop', 0, 'c')):
            self.refuses(yard, NotNow, yard.do, event)
        # One that is still where it was sent can be dropped, too.
        yard = played(CHAIN, (('out', 'b', 'c'), ('send', 'b', 'c'), ('learn', 'b')))
        self.refuses(yard, NotNow, yard.do, ('hop', 0, 'c'))
        yard.do(('drop', 0))
        self.assertEqual([yard.lost, yard[0]], [(0,), ('b',)])

    def test_a_packet_that_has_a_next_router_is_not_dropped(self):
        yard = played(SQUARE, RUN)
        for packet in (0, 1, 2, 3, 10 ** 9):
            self.refuses(yard, NotNow, yard.do, ('drop', packet))

    def test_a_hop_over_a_link_that_is_out(self):
        # By what a knows the link is there; it carries what is sent on to it.
        yard = played(CHAIN, (('out', 'a', 'b'), ('learn', 'b'), ('learn', 'c'), ('send', 'a', 'b')))
        self.assertIsNone(yard.do(('hop', 0, 'b')))
        self.assertEqual([yard.arrived, yard[0]], [(0,), ('a', 'b')])
        yard.do(('learn', 'a'))
        self.refuses(yard, NotNow, yard.do, ('send', 'a', 'b'))

    def test_each_router_sends_by_what_it_knows(self):
        yard = played(SQUARE, (('set', 'c', 'd', 3, 3), ('send', 'a', 'd')))
        self.assertEqual([event for event in yard.now if event[0] == 'hop'], [('hop', 0, 'b')])
        yard.do(('learn', 'a'))
        self.assertEqual([event for event in yard.now if event[0] == 'hop'], [('hop', 0, 'b'), ('hop', 0, 'd')])
        # What the others know changes nothing.
        for router in ('b', 'c', 'd'):
            yard.do(('learn', router))
            self.assertEqual([event for event in yard.now if event[0] == 'hop'], [('hop', 0, 'b'), ('hop', 0, 'd')])

    def test_bad_events(self):
        yard = played(SQUARE, RUN)
        events = [('set', 'a', 'b', 3, 4), ('out', 'a', 'b'), ('learn', 'a'), ('send', 'a', 'd'), ('hop', 0, 'b'),
                  ('drop', 0)]
        found = {True: 0, False: 0}
        for event in events:
            values = list(changed(event)) + [event[:at] + (other,) + event[at + 1:] for at in range(len(event))
                                             for other in any_values()]
            for value in values + [event + (1,), event[:-1], (event,), list(event), dict.fromkeys(event)]:
                right = is_event_of(SQUARE, value)
                found[right] += 1
                if not right:
                    before = repr_of(value)
                    self.assertIs(self.refuses(yard, BadEvent, yard.do, value).value, value)
                    self.assertEqual(repr_of(value), before)
        self.assertGreater(min(found.values()), 20)
        for value in any_values():
            self.assertIs(self.refuses(yard, BadEvent, yard.do, value).value, value)

    def test_bad_events_ahead_of_events_that_cannot_happen(self):
        yard = Yard(SQUARE)
        for event in (('set', 'b', 'a', 1, 1), ('set', 'a', 'b', 0, 1), ('set', 'a', 'c', 1, True), ('out', 'c', 'a'),
                      ('out', 'a', 'z'), ('learn', 'z'), ('send', 'a', 'z'), ('send', 'zz', 'zz'), ('hop', 7, 'z'),
                      ('hop', -1, 'a'), ('hop', True, 'a'), ('drop', -1), ('drop', False), ('drop', None)):
            self.assertIs(self.refuses(yard, BadEvent, yard.do, event).value, event)
        for event in (('set', 'a', 'c', 1, 1), ('out', 'a', 'c'), ('learn', 'a'), ('send', 'a', 'a'), ('hop', 7, 'a'),
                      ('drop', 7), ('hop', GREAT, 'a'), ('drop', GREAT)):
            self.assertIs(self.refuses(yard, NotNow, yard.do, event).event, event)

    def test_by_name(self):
        yard = Yard(SQUARE)
        self.assertEqual(yard.do(event=('send', 'a', 'd')), 0)
        self.assertEqual(yard(d='d', router='b'), 1)
        self.assertEqual(yard.known(router='a'), SQUARE)


class Strict(YardCase):

    def test_a_hop_by_which_a_packet_would_turn(self):
        yard = played(SQUARE, RUN[:4], True)
        event = RUN[4]
        self.assertIn(event, yard.now)
        error = self.refuses(yard, Turned, yard.do, event)
        self.assertEqual([error.packet, error.router], [0, 'a'])
        self.assertIs(error.__cause__.__class__, Ring)
        self.assertEqual(error.__cause__.ring, ('a', 'b'))
        self.assertIs(error.__cause__.ring.__class__, tuple)
        self.assertIn(event, yard.now)
        error = self.refuses(yard, Turned, lambda: yard.__setitem__(0, 'a'))
        self.assertEqual([error.packet, error.router, error.__cause__.ring], [0, 'a', ('a', 'b')])
        self.assertEqual(yard.turned, ())

    def test_the_ring_begins_with_the_visit(self):
        # From b to c, and back to b, though the packet was sent at a.
        run = (('send', 'a', 'd'), ('hop', 0, 'b'), ('hop', 0, 'c'), ('out', 'c', 'd'), ('learn', 'c'))
        error = self.raised(Turned, played(SQUARE, run, True).do, ('hop', 0, 'b'))
        self.assertEqual([error.packet, error.router, error.__cause__.ring], [0, 'b', ('b', 'c')])
        yard = played(SQUARE, run + (('hop', 0, 'b'),))
        self.assertEqual([yard[0], yard.turned], [('a', 'b', 'c', 'b'), ((0, 'b'),)])

    def test_not_now_ahead_of_turned(self):
        yard = played(SQUARE, RUN[:4], True)
        self.refuses(yard, NotNow, yard.do, ('hop', 0, 'c'))
        self.refuses(yard, NotNow, yard.do, ('hop', 1, 'a'))
        self.refuses(yard, BadEvent, yard.do, ('hop', 0, 'z'))

    def test_a_copy_and_a_trial_are_strict_too(self):
        yard = played(SQUARE, RUN[:4], True)
        self.refuses(yard, Turned, yard.copy().do, RUN[4])
        with yard.trial() as same:
            self.raised(Turned, same.do, RUN[4])


class Asking(YardCase):

    def test_turned_with_a_packet_that_came_there_often(self):
        yard = played(SQUARE, RUN[:3] + (('hop', 0, 'b'), ('hop', 0, 'a')) * 4)
        self.assertEqual(yard[0], ('a', 'b') * 4 + ('a',))
        self.assertEqual(yard.turned, ((0, 'a'), (0, 'b')))
        yard = played(SQUARE, RUN[:5])
        self.assertEqual(yard.turned, ((0, 'a'),))

    def test_many_packets(self):
        yard = Yard(SQUARE)
        for number in range(300):
            self.assertEqual(yard('a', 'b'), number)
        for number in range(0, 300, 2):
            yard[number] = 'b'
        self.assertEqual(yard.arrived, tuple(range(0, 300, 2)))
        self.assertEqual([number for number in range(310) if number in yard], list(range(1, 300, 2)))
        self.assertEqual(yard.now, tuple(sorted(yard.now)))
        self.assertEqual(len([event for event in yard.now if event[0] == 'hop']), 150)

    def test_packets_by_their_numbers(self):
        yard = played(SQUARE, RUN)
        self.assertEqual([yard[0], yard[1], yard[2]], [('a', 'b', 'a'), ('b', 'a'), ('c',)])
        self.assertEqual([number in yard for number in range(4)], [True, False, True, False])
        for value in any_values() + [3, -1, True, False, GREAT, 10 ** 9]:
            if value.__class__ is int and 0 <= value < 3:
                continue
            before = copy.deepcopy(value)
            self.assertIs(self.refuses(yard, NoPacket, lambda each: yard[each], value).value, value)
            self.assertIs(value in yard, False)
            for router in ('b', 'z', None, ['b']):
                self.assertIs(self.refuses(yard, NoPacket, yard.__setitem__, value, router).value, value)
            self.assertEqual(repr_of(value), repr_of(before))

    def test_known(self):
        yard = played(SQUARE, RUN)
        self.assertEqual([yard.known(router) for router in 'abcd'], [SQUARE, OUT, SQUARE, SQUARE])
        for value in any_values():
            self.assertIs(self.refuses(yard, NoRouter, yard.known, value).value, value)

    def test_told(self):
        yard = Yard(SQUARE)
        yard.do(('out', 'c', 'd'))
        for router in 'abcd':
            self.assertIs(yard.told(), False)
            yard.do(('learn', router))
        self.assertIs(yard.told(), True)
        yard('a', 'd')
        self.assertIs(yard.told(), False)
        yard[0] = 'd'
        self.assertIs(yard.told(), True)
        # Neither is one that is lost under way.
        yard = played(CHAIN, (('out', 'b', 'c'), ('send', 'b', 'c'), ('learn', 'a'), ('learn', 'b'), ('learn', 'c')))
        self.assertIs(yard.told(), False)
        yard.do(('drop', 0))
        self.assertIs(yard.told(), True)

    def test_sending_and_hopping_by_signs(self):
        yard = Yard(SQUARE)
        self.assertEqual(yard('a', 'd'), 0)
        yard[0] = 'b'
        self.assertEqual(yard.events, (('send', 'a', 'd'), ('hop', 0, 'b')))
        for router, d in (('a', 'a'), ('c', 'c')):
            self.assertEqual(self.refuses(yard, NotNow, yard, router, d).event, ('send', router, d))
        self.assertEqual(self.refuses(yard, NotNow, yard.__setitem__, 0, 'd').event, ('hop', 0, 'd'))
        for value in any_values():
            error = self.refuses(yard, BadEvent, yard, value, 'd')
            self.assertEqual(repr_of(error.value), repr_of(('send', value, 'd')))
            self.assertIs(self.refuses(yard, BadEvent, yard, 'a', value).value[2], value)
            self.assertIs(self.refuses(yard, BadEvent, yard.__setitem__, 0, value).value[2], value)

    def test_kinds_of_values(self):
        yard = played(SQUARE, RUN)
        for value in (yard.now, yard.events, yard.turned, yard.lost, yard.arrived, yard[0]):
            self.assertIs(value.__class__, tuple)
        self.assertEqual([yard.many.__class__, yard.net.__class__, yard.journal.__class__], [int, Net, str])
        self.assertEqual([yard.told().__class__, (0 in yard).__class__], [bool, bool])

    def test_what_was_returned_stays_as_it_was(self):
        yard = Yard(SQUARE)
        before = [yard.now, yard.events, yard.net, yard.turned, yard.lost, yard.arrived]
        kept = repr_of(before)
        for event in RUN:
            yard.do(event)
        self.assertEqual(repr_of(before), kept)


class Undoing(YardCase):

    def test_back_through_drawn_runs(self):
        source = random.Random(94)
        for net in some_nets(12, 5, 8, seed=94) + [SQUARE, CHAIN]:
            for strict in (False, True):
                plain = drawn_run(source, net, 40, strict)
                yard = played(net, plain.run, strict)
                while plain.run:
                    self.same(yard, plain)
                    self.assertIsNone(yard.back())
                    plain.run.pop()
                self.same(yard, plain)
                self.assertEqual(yard, Yard(net))

    def test_back_and_forth(self):
        source = random.Random(95)
        for net in some_nets(8, 5, 8, seed=95) + [SQUARE]:
            yard, plain = Yard(net), PlainYard(net)
            for _ in range(60):
                if plain.run and source.randint(0, 2) == 0:
                    yard.back()
                    plain.run.pop()
                else:
                    event = drawn_event(source, plain)
                    if plain.can(event):
                        yard.do(event)
                        plain.run.append(event)
                self.same(yard, plain)

    def test_nothing_to_undo(self):
        yard = Yard(SQUARE)
        self.refuses(yard, NothingToUndo, yard.back)
        yard('a', 'd')
        yard.back()
        self.refuses(yard, NothingToUndo, yard.back)

    def test_copy(self):
        source = random.Random(96)
        for net in some_nets(12, 5, 8, seed=96) + [SQUARE]:
            for strict in (False, True):
                plain = drawn_run(source, net, 25, strict)
                yard = played(net, plain.run, strict)
                other = yard.copy()
                self.assertIs(other.__class__, Yard)
                self.assertIsNot(other, yard)
                self.assertEqual(other, yard)
                self.same(other, plain)
                # Neither changes with the other.
                self.changes_alone(source, yard, other, plain)
                self.changes_alone(source, other, yard, plain)

    def changes_alone(self, source, one, other, plain):
        """Goes on and back with one yard, while the other one stays as it is."""
        for _ in range(6):
            events = [event for event in one.now if not (plain.strict and event[0] == 'hop')]
            if events and source.randint(0, 1):
                one.do(source.choice(events))
            elif one.events:
                one.back()
            self.same(other, plain)
        while one.events:
            one.back()
        for event in plain.run:
            one.do(event)
        self.same(one, plain)

    def test_equal_yards(self):
        yards = [Yard(SQUARE), Yard(OUT), played(SQUARE, RUN), played(SQUARE, RUN[:-1]), played(SQUARE, RUN[:1]),
                 Yard(SQUARE.with_link('a', 'b', 2, 2)), played(SQUARE, (('set', 'a', 'b', 1, 1),))]
        for at, yard in enumerate(yards):
            for other_at, other in enumerate(yards):
                self.assertIs(yard == other.copy(), at == other_at)
                self.assertIs(yard != other.copy(), at != other_at)
        self.assertIs(Yard(SQUARE, strict=True) == Yard(SQUARE), True)
        self.assertIs(played(SQUARE, RUN[:4], True) == played(SQUARE, RUN[:4]), True)
        # The same at the end, by another run.
        one = played(SQUARE, (('set', 'a', 'b', 1, 1), ('set', 'b', 'c', 1, 1)))
        self.assertIs(one == played(SQUARE, (('set', 'b', 'c', 1, 1), ('set', 'a', 'b', 1, 1))), False)
        for value in any_values() + [SQUARE, RUN, yards[0].journal]:
            self.assertIs(yards[0] == value, False)
            self.assertIs(value == yards[0], False)


class Trials(YardCase):

    def test_the_yard_is_as_before(self):
        source = random.Random(97)
        for net in some_nets(12, 5, 8, seed=97) + [SQUARE]:
            plain = drawn_run(source, net, 20)
            yard = played(net, plain.run)
            with yard.trial() as same:
                self.assertIs(same, yard)
                self.wander(source, yard)
            self.same(yard, plain)
            with yard.trial(keep=True):
                self.wander(source, yard)
                plain.run = list(yard.events)
            self.same(yard, plain)

    def wander(self, source, yard):
        """Goes some events on and back."""
        for _ in range(source.randint(0, 12)):
            if yard.events and source.randint(0, 1):
                yard.back()
            elif yard.now:
                yard.do(source.choice(yard.now))

    def test_back_from_before_a_trial(self):
        yard = played(SQUARE, RUN)
        before = seen(yard)
        with yard.trial():
            while yard.events:
                yard.back()
            self.raised(NothingToUndo, yard.back)
            self.assertEqual(yard, Yard(SQUARE))
            yard('b', 'd')
        self.assertEqual(seen(yard), before)
        with yard.trial(keep=True):
            yard.back()
        self.assertEqual(yard.events, RUN[:-1])
        yard.back()
        self.assertEqual(yard.events, RUN[:-2])

    def test_keep_of_any_value(self):
        for value in any_values() + [1, 'True', (True,)]:
            for by in ('trial', 'tried'):
                yard = Yard(SQUARE)
                if by == 'trial':
                    with yard.trial(keep=value):
                        yard('a', 'd')
                else:
                    self.assertEqual(yard.tried(lambda same: same('a', 'd'), keep=value), 0)
                self.assertEqual(yard.many, 1 if value is True else 0)

    def test_an_error_that_leaves_the_block(self):
        for keep in (True, False):
            yard = played(SQUARE, RUN)
            before = seen(yard)
            for error in (NotNow, ValueError, KeyError, KeyboardInterrupt):
                with self.assertRaises(error):
                    with yard.trial(keep=keep):
                        yard('a', 'd')
                        if error is NotNow:
                            yard.do(('drop', 99))
                        raise error()
                self.assertEqual(seen(yard), before)
            # An error that does not leave it.
            with yard.trial(keep=keep):
                yard('a', 'd')
                self.raised(NotNow, yard.do, ('drop', 99))
            self.assertEqual(yard.many, 4 if keep else 3)

    def test_trials_within_one_another(self):
        for outer in (True, False):
            for inner in (True, False):
                yard = Yard(SQUARE)
                with yard.trial(keep=outer):
                    yard('a', 'd')
                    with yard.trial(keep=inner):
                        yard('b', 'd')
                    self.assertEqual(yard.many, 2 if inner else 1)
                    yard('c', 'd')
                self.assertEqual(yard.many, (3 if inner else 2) if outer else 0)

    def test_a_context_manager_entered_again(self):
        for keep in (True, False):
            yard = Yard(SQUARE)
            trial = yard.trial(keep=keep)
            for many in range(3):
                with trial as same:
                    self.assertIs(same, yard)
                    yard('a', 'd')
                self.assertEqual(yard.many, many + 1 if keep else 0)

    def test_a_context_manager_entered_within_its_own_block(self):
        for keep in (True, False):
            yard = Yard(SQUARE)
            trial = yard.trial(keep=keep)
            with trial:
                yard('a', 'd')
                with trial:
                    yard('a', 'd')
                    with trial:
                        yard('a', 'd')
                        yard.back()
                        yard.back()
                    self.assertEqual(yard.many, 1 if keep else 2)
                self.assertEqual(yard.many, 1)
                with self.assertRaises(KeyError):
                    with trial:
                        yard.back()
                        raise KeyError()
                self.assertEqual(yard.many, 1)
            self.assertEqual(yard.many, 1 if keep else 0)

    def test_two_context_managers_in_turns(self):
        yard = Yard(SQUARE)
        one, other = yard.trial(), yard.trial(keep=True)
        with one:
            yard('a', 'd')
            with other:
                yard('b', 'd')
                with one:
                    yard('c', 'd')
                    with other:
                        yard.back()
                        yard.back()
                    self.assertEqual(yard.events, (('send', 'a', 'd'),))
                self.assertEqual(yard.events, (('send', 'a', 'd'), ('send', 'b', 'd')))
            self.assertEqual(yard.many, 2)
        self.assertEqual(yard.many, 0)

    def test_a_copy_within_a_trial(self):
        yard = played(SQUARE, RUN)
        with yard.trial():
            yard('a', 'd')
            other = yard.copy()
            other('b', 'd')
            self.assertEqual([yard.many, other.many], [4, 5])
        self.assertEqual([yard.many, other.many], [3, 5])
        self.assertEqual(other.events, RUN + (('send', 'a', 'd'), ('send', 'b', 'd')))
        other.back()
        self.assertEqual([yard.many, other.many], [3, 4])

    def test_a_trial_of_each_of_two_yards(self):
        one, other = Yard(SQUARE), Yard(SQUARE)
        with one.trial(), other.trial(keep=True):
            one('a', 'd')
            other('a', 'd')
        self.assertEqual([one.many, other.many], [0, 1])

    def test_tried(self):
        yard = played(SQUARE, RUN)
        before = seen(yard)
        for value in any_values():
            self.assertIs(yard.tried(lambda same: value), value)
        self.assertIs(yard.tried(lambda same: same), yard)
        value = yard.tried(lambda same: (same('a', 'd'), same.back(), same.back(), same.many))
        self.assertEqual(value, (3, None, None, 2))
        self.assertEqual(seen(yard), before)
        self.assertEqual(yard.tried(look=lambda same: same('a', 'd'), keep=True), 3)
        self.assertEqual(yard.events, RUN + (('send', 'a', 'd'),))
        # Within one another.
        self.assertEqual(yard.tried(lambda same: [same.back(), same.tried(lambda again: again('b', 'a'), keep=True),
                                                  same.many]), [None, 3, 4])
        self.assertEqual(yard.many, 4)

    def test_look_that_raises(self):
        for keep in (True, False):
            yard = played(SQUARE, RUN)
            before = seen(yard)

            def look(same):
                same('a', 'd')
                same.do(('learn', 'a'))
                raise KeyError(same.many)

            with self.assertRaises(KeyError) as caught:
                yard.tried(look, keep=keep)
            self.assertEqual(caught.exception.args, (4,))
            self.assertEqual(seen(yard), before)
            error = self.refuses(yard, NotNow, yard.tried, lambda same: same.do(('drop', 0)), keep=keep)
            self.assertEqual(error.event, ('drop', 0))

    def test_keep_is_passed_by_name(self):
        yard = Yard(SQUARE)
        for call in (lambda: yard.trial(True), lambda: yard.tried(len, True)):
            with self.assertRaises(TypeError):
                call()


class KeepOfTrials(YardCase):

    def within(self, yard, run, plan):
        """Plays trials within one another by a plan of (by, keep, error); returns the run that is expected then."""
        if not plan:
            return run
        (by, keep, error), *rest = plan
        played_in = []

        def look(same):
            self.assertIs(same, yard)
            yard.back()
            yard('a', 'd')
            yard('b', 'd')
            played_in.append(self.within(yard, run[:-1] + (('send', 'a', 'd'), ('send', 'b', 'd')), rest))
            yard('c', 'd')
            if error is not None:
                raise error()
            return 'looked'

        if error is None:
            self.assertEqual(entered(by, yard, keep, look), 'looked')
        else:
            self.raised(error, entered, by, yard, keep, look)
        if keep.get('keep') is True and error is None:
            run = played_in[0] + (('send', 'c', 'd'),)
        self.assertEqual(seen(yard), seen(played(SQUARE, run)))
        return run

    def test_one_trial(self):
        for by, keep, error in itertools.product(('trial', 'tried'), KEEPS, (None, KeyError, KeyboardInterrupt)):
            self.within(played(SQUARE, RUN), RUN, [(by, keep, error)])

    def test_a_trial_in_a_trial(self):
        trials = list(itertools.product(('trial', 'tried'), KEEPS, (None, KeyError)))
        for outer, inner in itertools.product(trials, trials):
            self.within(played(SQUARE, RUN), RUN, [outer, inner])

    def test_an_error_that_leaves_both_trials(self):
        def look(same):
            same.back()
            raise KeyError(same('a', 'd'))

        trials = list(itertools.product(('trial', 'tried'), KEEPS))
        yard = played(SQUARE, RUN)
        for (outer, outer_keep), (inner, inner_keep) in itertools.product(trials, trials):
            error = self.refuses(yard, KeyError, entered, outer, yard, outer_keep,
                                 lambda same: entered(inner, same, inner_keep, look))
            self.assertEqual(error.args, (2,))

    def test_the_same_context_manager_behind_its_block(self):
        for keep, *errors in itertools.product(KEEPS, (None, KeyError), (None, KeyError), (None, KeyError)):
            yard, run = played(SQUARE, RUN), RUN
            trial = yard.trial(**keep)
            for error in errors:
                run = self.within(yard, run, [(trial, keep, error)])

    def test_the_same_context_manager_within_its_own_block(self):
        for keep, *errors in itertools.product(KEEPS, (None, KeyError), (None, KeyError), (None, KeyError)):
            yard = played(SQUARE, RUN)
            trial = yard.trial(**keep)
            for _ in range(2):
                self.within(yard, yard.events, [(trial, keep, error) for error in errors])
            # With others between.
            self.within(yard, yard.events, [(trial, keep, errors[0]), ('tried', {'keep': True}, errors[1]),
                                            (trial, keep, errors[2]), ('trial', {}, None)])


if __name__ == '__main__':
    unittest.main()
