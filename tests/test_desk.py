"""Point 16.2."""

import random
import unittest

from plain_yard import drawn_event, drawn_run, is_event_of, seen
from quietturns.desk import Desk
from quietturns.errors import BadEvent, BadLine, BadNet, BadText, NoPacket, NothingToUndo, NotNow, Turned
from quietturns.journals import read_journal
from quietturns.judging import judged
from quietturns.yard import Yard
from support import SQUARE, Case, any_values, repr_of, some_nets
from test_texts import NO_NUMBERS, changed_words, event_in, number_in

EXAMPLE = r"""
>>> from quietturns.desk import Desk
>>> desk = Desk('routers a b c d\nlink a b 1 1\nlink a d 5 5\nlink b c 1 1\nlink c d 1 1\nrun\nout c d\nlearn b\nsend a d')
>>> [desk.say(line) for line in ('hop 0 b', 'hop 0 a', 'where 0', 'turned', 'judged', 'told', 'back', 'turned')]
['ok', 'ok', 'a b a', '0', 'turns', 'no', 'ok', 'none']
"""
TEXT = 'routers a b c d\nlink a b 1 1\nlink a d 5 5\nlink b c 1 1\nlink c d 1 1'
JOURNAL = f'{TEXT}\nrun\nout c d\nlearn b\nsend a d\nhop 0 b\nhop 0 a\nsend b a\nhop 1 a'
QUESTIONS = ('now', 'judged', 'told', 'turned', 'lost', 'arrived')


def numbers(packets):
    """The numbers as a desk says them."""
    return ' '.join(map(str, sorted(set(packets)))) or 'none'


def answers(plain):
    """The answers to all questions, by a yard of the tests' own."""
    nets, known, packets = plain.played()
    found = plain.seen()
    said = {
        'now': str(len(found['now'])), 'told': 'yes' if found['told'] else 'no',
        'judged': judged(nets[min(known.values())], nets[-1])[0],
        'turned': numbers(packet for packet, _ in found['turned']), 'lost': numbers(found['lost']),
        'arrived': numbers(found['arrived']),
    }
    return {**said, **{f'where {packet}': ' '.join(route) for packet, (route, _, _) in enumerate(packets)}}


class Desks(Case):

    def test_the_example(self):
        self.example(EXAMPLE, 3)

    def test_the_yard_of_a_journal(self):
        for text in (JOURNAL, f'{TEXT}\nstrict', f'{TEXT}\nrun'):
            desk = Desk(text)
            self.assertIs(desk.yard.__class__, Yard)
            self.assertEqual(desk.yard, read_journal(text))
            self.assertEqual(seen(Desk(text=text).yard), seen(read_journal(text)))

    def test_what_read_journal_raises(self):
        for text, value in ((TEXT, 5), ('', 0), (f'{JOURNAL}\n', 13), (f'{TEXT}\nrun\nlearn a', 6)):
            self.assertEqual(self.raised(BadText, Desk, text).value, value)
        self.assertEqual(self.raised(BadNet, Desk, 'routers b a\nrun').value, (('b', 'a'), ()))
        for value in any_values():
            if not isinstance(value, str):
                self.assertIsNone(self.raised(BadText, Desk, value).value)

    def test_drawn_runs(self):
        source, words = random.Random(111), set()
        for net in some_nets(12, 5, 8, seed=111) + [SQUARE] * 3:
            plain = drawn_run(source, net, 10)
            desk = Desk(plain.journal())
            for _ in range(30):
                for line, answer in answers(plain).items():
                    words.add((line.split()[0], answer))
                    self.assertEqual(desk.say(line), answer)
                if plain.run and source.randint(0, 5) == 0:
                    self.assertEqual(desk.say('back'), 'ok')
                    plain.run.pop()
                    continue
                event = drawn_event(source, plain)
                line = ' '.join(map(str, event))
                if plain.can(event):
                    many = plain.seen()['many']
                    self.assertEqual(desk.say(line), str(many) if event[0] == 'send' else 'ok')
                    plain.run.append(event)
                else:
                    self.assertEqual(self.raised(NotNow, desk.say, line).event, event)
                self.assertEqual(seen(desk.yard), plain.seen())
        for each in (('judged', 'turns'), ('judged', 'lost'), ('judged', 'quiet'), ('told', 'yes'), ('told', 'no')):
            self.assertIn(each, words)

    def test_answers_are_strings(self):
        desk = Desk(JOURNAL)
        for line in (*QUESTIONS, 'where 0', 'send a d', 'learn a', 'back'):
            self.assertIs(desk.say(line=line).__class__, str)

    def test_events(self):
        desk = Desk(f'{TEXT}\nrun')
        for line, answer in (('send a d', '0'), ('send b d', '1'), ('hop 0 b', 'ok'), ('set c d 5 7', 'ok'),
                             ('out a d', 'ok'), ('learn a', 'ok'), ('learn b', 'ok'), ('send a b', '2')):
            self.assertEqual(desk.say(line), answer)
        self.assertEqual(len(desk.yard.events), 8)
        # Those by their form, with any names, are for the yard to refuse.
        for line, kind in (('learn z', BadEvent), ('send a zz', BadEvent), ('hop 0 z', BadEvent),
                           ('hop 99 z', BadEvent), ('set a z 1 1', BadEvent), ('out y z', BadEvent),
                           ('hop 99 a', NotNow), ('drop 0', NotNow), ('set a c 1 1', NotNow), ('out a d', NotNow),
                           ('send a a', NotNow)):
            before = seen(desk.yard)
            error = self.raised(kind, desk.say, line)
            self.assertEqual(error.value if kind is BadEvent else error.event, event_in(line))
            self.assertEqual(seen(desk.yard), before)

    def test_a_strict_yard(self):
        desk = Desk(f'{TEXT}\nstrict\nout c d\nlearn b\nsend a d\nhop 0 b')
        error = self.raised(Turned, desk.say, 'hop 0 a')
        self.assertEqual([error.packet, error.router, error.__cause__.ring], [0, 'a', ('a', 'b')])
        self.assertEqual(desk.say('turned'), 'none')

    def test_back(self):
        desk = Desk(f'{TEXT}\nrun\nsend a d')
        self.assertEqual([desk.say('back'), desk.say('now')], ['ok', '12'])
        self.raised(NothingToUndo, desk.say, 'back')

    def test_where(self):
        desk = Desk(JOURNAL)
        self.assertEqual([desk.say('where 0'), desk.say('where 1')], ['a b a', 'b a'])
        for number in (2, 10, 999999999):
            self.assertEqual(self.raised(NoPacket, desk.say, f'where {number}').value, number)
        for word in NO_NUMBERS:
            self.assertEqual(self.raised(BadLine, desk.say, f'where {word}').value, f'where {word}')
        for line in ('where', 'where ', 'where 0 0', 'where 0 ', ' where 0', 'where  0', 'Where 0', 'where 0\n',
                     'where 0 a'):
            self.assertEqual(self.raised(BadLine, desk.say, line).value, line)

    def test_numbers_of_packets(self):
        # Two places at which packet 0 turned, and a packet 10 behind the packet 2.
        desk = Desk(JOURNAL + '\nhop 0 b' + '\nsend b a' * 9 + '\nhop 10 a\nhop 2 a')
        self.assertEqual([desk.yard.turned, desk.say('turned')], [((0, 'a'), (0, 'b')), '0'])
        self.assertEqual([desk.say('arrived'), desk.say('lost')], ['1 2 10', 'none'])
        text = 'routers a b c\nlink a b 1 1\nlink b c 1 1\nrun\nsend a c\nhop 0 b\nsend b c\nout b c\nlearn b'
        desk = Desk(text + '\ndrop 1\ndrop 0')
        self.assertEqual([desk.say('lost'), desk.say('arrived'), desk.say('judged')], ['0 1', 'none', 'lost'])

    def test_judged_of_the_oldest_net_and_the_newest(self):
        desk = Desk(f'{TEXT}\nrun')
        self.assertEqual(desk.say('judged'), 'quiet')
        desk.say('set c d 3 3')
        desk.say('set c d 9 9')
        self.assertEqual(judged(SQUARE, desk.yard.net)[0], 'turns')
        self.assertEqual(judged(SQUARE.with_link('c', 'd', 3, 3), desk.yard.net)[0], 'turns')
        self.assertEqual(desk.say('judged'), 'turns')
        for router in 'abcd':
            desk.say(f'learn {router}')
            desk.say(f'learn {router}')
            self.assertEqual(desk.say('judged'), 'quiet' if router == 'd' else 'turns')

    def test_changed_lines(self):
        desk, found = Desk(JOURNAL), set()
        lines = ('set a b 3 4', 'out a b', 'learn a', 'send a d', 'hop 0 b', 'drop 0', 'where 0', 'back', *QUESTIONS)
        for line in lines:
            for other in changed_words(line):
                words = other.split(' ')
                event = event_in(other)
                right = event is not None or other in ('back', *QUESTIONS) or (
                    words[0] == 'where' and len(words) == 2 and number_in(words[1]) is not None)
                found.add((line, right))
                before = seen(desk.yard)
                if not right:
                    self.assertEqual(self.raised(BadLine, desk.say, other).value, other)
                elif event is not None and not is_event_of(SQUARE, event):
                    self.assertEqual(self.raised(BadEvent, desk.say, other).value, event)
                self.assertEqual(seen(desk.yard), before)
        for line in lines:
            self.assertIn((line, False), found)
        for line in ('set a b 3 4', 'out a b', 'learn a', 'send a d', 'hop 0 b', 'drop 0', 'where 0'):
            self.assertIn((line, True), found)

    def test_bad_lines(self):
        desk = Desk(JOURNAL)
        before = seen(desk.yard)
        for value in any_values() + ['', ' ', 'run', 'strict', 'routers a b', 'link a b 1 1', 'back ', ' back',
                                     'back back', 'Back',
                                     'now now', 'now\n', 'told\nback', 'learn a\nlearn c', 'set b a 1 1', 'set a b 0 1',
                                     'set a b 1 1234567890', 'hop -1 a', 'events', 'journal', 'net', 'copy', 'none',
                                     'ok',
                                     b'back', ['back'], ('back',), TEXT, JOURNAL]:
            kept = repr_of(value)
            self.assertIs(self.raised(BadLine, desk.say, value).value, value)
            self.assertEqual(repr_of(value), kept)
        self.assertEqual(seen(desk.yard), before)


if __name__ == '__main__':
    unittest.main()
