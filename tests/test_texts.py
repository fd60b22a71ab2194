"""Section 15."""

import copy
import random
import unittest

from plain_yard import drawn_run, is_event
from quietturns.errors import BadNet, BadRun, BadText
from quietturns.nets import Net
from quietturns.texts import read_net, read_run, show_net, show_run
from support import EIGHT, GREAT, SQUARE, Case, any_values, changed, full_net, great_net, repr_of, some_nets

EXAMPLE = r"""
>>> from quietturns.nets import Net
>>> net = Net(('a', 'b', 'c', 'd'), (('a', 'b', 1, 1), ('a', 'd', 5, 5), ('b', 'c', 1, 1), ('c', 'd', 1, 1)))
>>> from quietturns.texts import read_net, read_run, show_net
>>> [show_net(net), read_net(show_net(net)) == net, read_run('learn a\nsend a d')]
['routers a b c d\nlink a b 1 1\nlink a d 5 5\nlink b c 1 1\nlink c d 1 1', True, (('learn', 'a'), ('send', 'a', 'd'))]
"""
TEXT = 'routers a b c d\nlink a b 1 1\nlink a d 5 5\nlink b c 1 1\nlink c d 1 1'
RUN = (('set', 'a', 'b', 3, 4), ('out', 'a', 'b'), ('learn', 'a'), ('send', 'a', 'd'), ('hop', 0, 'b'), ('drop', 0))
RUN_TEXT = 'set a b 3 4\nout a b\nlearn a\nsend a d\nhop 0 b\ndrop 0'
# Words that are no numbers, and no names.
NO_NUMBERS = ('1234567890', '00', '01', '000000001', '+1', '-1', '1.0', '1_0', 'x', '', '1e3', '\u0661', '\u00b2',
              '0x1',
              '9999999999', ' 1', '1\t', 'a')
NO_NAMES = ('A', 'aB', 'a1', 'abcdefghi', '', '\u00e9', '-', 'a_b', '1', 'a\t', '\uff41', 'a\r')


def changed_words(row):
    """The row with a word left out, doubled, moved, put in or another one, and with other signs between and around."""
    words = row.split(' ')
    for at, word in enumerate(words):
        head, tail = words[:at], words[at + 1:]
        for other in (NO_NUMBERS + NO_NAMES + ('a', 'b', 'z', '0', '1', '7', '999999999', '123456789', 'abcdefgh',
                                               'link',
                                               'routers', 'run', 'strict', 'set', 'out', 'learn', 'send', 'hop',
                                               'drop')):
            yield ' '.join(head + [other] + tail)
        yield ' '.join(head + tail)
        yield ' '.join(head + [word, word] + tail)
        yield ' '.join(tail + [word] + head)
        yield ' '.join(head + [word.upper()] + tail)
    yield from (row + ' ', ' ' + row, row.replace(' ', '  ', 1), row.replace(' ', '\t', 1), row + '\r', '', ' ',
                row.replace(' ', ''), row + '\x0b', row.replace(' ', '\u00a0', 1), row + '.')


def number_in(word):
    """The number of a word, None if it is none."""
    if not word or len(word) > 9 or any(sign not in '0123456789' for sign in word) or word[0] == '0' and len(word) > 1:
        return None
    return int(word)


def is_name(word):
    """Whether a word is a name."""
    return 0 < len(word) < 9 and all(sign in 'abcdefghijklmnopqrstuvwxyz' for sign in word)


def event_in(row):
    """The event of a row, None if it is none."""
    words = row.split(' ')
    numbers = {'set': (3, 4), 'hop': (1,), 'drop': (1,)}.get(words[0], ())
    event = tuple(number_in(word) if at in numbers else word for at, word in enumerate(words))
    return event if is_event(event) else None


def parts_in(text):
    """The routers and links of a text, or the index of the first row that has no form."""
    found = []
    for at, row in enumerate(text.split('\n')):
        word, *words = row.split(' ')
        if at == 0:
            if word != 'routers' or not all(map(is_name, words)):
                return at
            found.append(tuple(words))
        else:
            numbers = [number_in(each) for each in words[2:]]
            if word != 'link' or len(words) != 4 or not all(map(is_name, words[:2])) or None in numbers:
                return at
            found.append((*words[:2], *numbers))
    return found[0], tuple(found[1:])


class Nets(Case):

    def reads(self, text):
        """Expects the net that the text has, or the error that it is to raise; returns which."""
        parts = parts_in(text)
        with self.subTest(text=text):
            if isinstance(parts, int):
                self.assertEqual(self.raised(BadText, read_net, text).value, parts)
                return 'text'
            try:
                net = Net(*parts)
            except BadNet:
                self.assertEqual(repr_of(self.raised(BadNet, read_net, text).value), repr_of(parts))
                return 'net'
            self.assertEqual(repr_of(read_net(text)), repr_of(net))
            return 'read'

    def test_the_example(self):
        self.example(EXAMPLE, 4)

    def test_there_and_back(self):
        nets = some_nets(60, 8, 16, 999999999) + [SQUARE, full_net(), great_net(1, 999999999), Net(('a', 'b'), ())]
        for net in nets + [Net(('a', 'abcdefgh', 'z'), (('abcdefgh', 'z', 999999999, 1),))]:
            before, text = repr_of(net), show_net(net)
            rows = ['routers ' + ' '.join(net.routers)] + ['link ' + ' '.join(map(str, link)) for link in net.links]
            self.assertEqual(text, '\n'.join(rows))
            self.assertEqual(repr_of(read_net(text)), before)
            self.assertEqual(repr_of(net), before)
        self.assertEqual(show_net(SQUARE), TEXT)

    def test_numbers_of_nine_digits_and_of_ten(self):
        net = SQUARE.with_link('a', 'b', 999999999, 100000000)
        self.assertEqual(read_net(show_net(net)), net)
        for length in (1000000000, 9999999999, GREAT):
            text = show_net(SQUARE.with_link('a', 'd', length, 1))
            self.assertIn(f'link a d {length} 1', text)
            self.assertEqual(self.raised(BadText, read_net, text).value, 2)

    def test_changed_words(self):
        found = {'text': 0, 'net': 0, 'read': 0}
        rows = TEXT.split('\n')
        for at, row in enumerate(rows):
            for other in changed_words(row):
                found[self.reads('\n'.join(rows[:at] + [other] + rows[at + 1:]))] += 1
        self.assertGreater(min(found.values()), 20)

    def test_changed_rows(self):
        rows = TEXT.split('\n')
        for at, row in enumerate(rows):
            for other in (rows[:at] + rows[at + 1:], rows[:at] + [row, row] + rows[at + 1:], rows[at:] + rows[:at],
                          rows[:at] + [''] + rows[at:], rows[:at] + ['run'] + rows[at:],
                          rows[:at] + ['learn a'] + rows[at:]):
                self.reads('\n'.join(other))
        for text in (TEXT + '\n', '\n' + TEXT, TEXT.replace('\n', '\r\n'), TEXT.replace('\n', '\n\n'), '', '\n', ' ',
                     'routers', 'routers ', 'routers\n', 'link a b 1 1', TEXT.replace('\n', '\x0b'), 'routers a b\x1c'):
            self.reads(text)
        self.assertEqual(self.raised(BadText, read_net, '').value, 0)
        self.assertEqual(self.raised(BadText, read_net, TEXT + '\n').value, 5)

    def test_what_a_net_must_be_is_looked_at_last(self):
        self.assertEqual(self.raised(BadNet, read_net, 'routers').value, ((), ()))
        self.assertEqual(self.raised(BadNet, read_net, 'routers b a').value, (('b', 'a'), ()))
        text = 'routers a b\nlink b a 0 1\nlink x y 1 1'
        self.assertEqual(self.raised(BadNet, read_net, text).value, (('a', 'b'), (('b', 'a', 0, 1), ('x', 'y', 1, 1))))
        # No net, and a row without a form.
        self.assertEqual(self.raised(BadText, read_net, text + '\nlink a b 1').value, 3)
        self.assertEqual(self.raised(BadText, read_net, 'routers b a\n').value, 1)
        many = 'routers ' + ' '.join(EIGHT) + ' i'
        self.assertEqual(self.raised(BadNet, read_net, many).value, (EIGHT + ('i',), ()))

    def test_the_first_of_several_rows(self):
        rows = TEXT.split('\n')
        for first in range(5):
            for second in range(first, 5):
                other = list(rows)
                other[first], other[second] = 'link a b 01 1', 'link a b 1 01'
                self.assertEqual(self.raised(BadText, read_net, '\n'.join(other)).value, first)

    def test_what_is_no_text(self):
        for value in any_values():
            if not isinstance(value, str):
                self.assertIsNone(self.raised(BadText, read_net, value).value)
                self.assertIsNone(self.raised(BadText, read_run, value).value)
            else:
                self.reads(value)
        for value in (b'routers a b', ['routers a b'], ('routers a b',)):
            self.assertIsNone(self.raised(BadText, read_net, value).value)

    def test_by_name(self):
        self.assertEqual(read_net(text=show_net(net=SQUARE)), SQUARE)
        self.assertEqual(read_run(text=show_run(run=RUN)), RUN)


class Runs(Case):

    def reads(self, text):
        """Expects the events that the text has, or the index of the first row that is none."""
        events = [event_in(row) for row in text.split('\n')]
        with self.subTest(text=text):
            if text == '':
                self.assertEqual(read_run(text), ())
            elif None in events:
                self.assertEqual(self.raised(BadText, read_run, text).value, events.index(None))
            else:
                self.assertEqual(repr_of(read_run(text)), repr_of(tuple(events)))
                self.assertEqual(show_run(tuple(events)), text)
        return None not in events

    def test_there_and_back(self):
        self.assertEqual(show_run(RUN), RUN_TEXT)
        self.assertEqual(repr_of(read_run(RUN_TEXT)), repr_of(RUN))
        self.assertEqual([show_run(()), read_run('')], ['', ()])
        source = random.Random(81)
        for net in some_nets(30, seed=81):
            run = tuple(drawn_run(source, net, 30).run)
            self.assertEqual(repr_of(read_run(show_run(run))), repr_of(run))

    def test_routers_may_be_any_names(self):
        for event in (('set', 'x', 'y', 1, 999999999), ('out', 'abcdefgh', 'z'), ('learn', 'q'), ('send', 'q', 'q'),
                      ('hop', 999999999, 'zz'), ('drop', 7)):
            self.assertEqual(read_run(show_run((event,))), (event,))

    def test_great_numbers_are_shown(self):
        for number in (1000000000, GREAT):
            for event in (('set', 'a', 'b', 1, number), ('hop', number, 'a'), ('drop', number)):
                text = show_run((RUN[0], event))
                self.assertEqual(text, 'set a b 3 4\n' + ' '.join(map(str, event)))
                self.assertEqual(self.raised(BadText, read_run, text).value, 1)

    def test_changed_words(self):
        found = {True: 0, False: 0}
        rows = RUN_TEXT.split('\n')
        for at, row in enumerate(rows):
            for other in changed_words(row):
                found[self.reads(other)] += 1
                self.reads('\n'.join(rows[:at] + [other] + rows[at + 1:]))
        self.assertGreater(min(found.values()), 50)

    def test_numbers(self):
        for word in NO_NUMBERS:
            for row in (f'set a b {word} 1', f'set a b 1 {word}', f'hop {word} a', f'drop {word}'):
                self.assertEqual(self.raised(BadText, read_run, row).value, 0)
        for number in (0, 1, 9, 10, 99, 999999999, 100000000):
            self.assertEqual(read_run(f'hop {number} a\ndrop {number}'), (('hop', number, 'a'), ('drop', number)))
        # Lengths are integers from 1, packets from 0.
        for row in ('set a b 0 1', 'set a b 1 0'):
            self.assertEqual(self.raised(BadText, read_run, row).value, 0)

    def test_routers_in_order(self):
        for row in ('set b a 1 1', 'set a a 1 1', 'out b a', 'out a a'):
            self.assertEqual(self.raised(BadText, read_run, 'learn a\n' + row).value, 1)
        self.assertEqual(read_run('send b a\nsend a a'), (('send', 'b', 'a'), ('send', 'a', 'a')))

    def test_other_rows(self):
        for text in ('\n', ' ', 'learn a\n', '\nlearn a', 'learn a\n\nlearn b', TEXT, 'run', 'strict',
                     'learn a\r\nlearn b'):
            self.reads(text)
        self.assertEqual(self.raised(BadText, read_run, 'learn a\n').value, 1)
        self.assertEqual(self.raised(BadText, read_run, '\n').value, 0)

    def test_bad_runs(self):
        for value in any_values():
            if not isinstance(value, tuple):
                self.assertEqual(self.raised(BadRun, show_run, value).value, -1)
            elif value:
                self.assertEqual(self.raised(BadRun, show_run, value).value, 0)
            before = copy.deepcopy(value)
            for at in range(len(RUN) + 1):
                run = RUN[:at] + (value,) + RUN[at:]
                self.assertEqual(self.raised(BadRun, show_run, run).value, at)
            self.assertEqual(repr_of(value), repr_of(before))
        self.assertEqual(self.raised(BadRun, show_run, list(RUN)).value, -1)

    def test_changed_events(self):
        found = {True: 0, False: 0}
        for event in RUN:
            for value in list(changed(event)) + [event[:at] + (other,) + event[at + 1:] for at in range(len(event))
                                                 for other in any_values()]:
                found[is_event(value)] += 1
                if is_event(value):
                    self.assertEqual(show_run((value,)), ' '.join(map(str, value)))
                else:
                    self.assertEqual(self.raised(BadRun, show_run, (event, value, None)).value, 1)
        self.assertGreater(min(found.values()), 50)

    def test_the_first_of_several_events(self):
        self.assertEqual(self.raised(BadRun, show_run, (RUN[0], ('drop', True), ('drop', -1))).value, 1)
        self.assertEqual(self.raised(BadText, read_run, 'learn a\ndrop x\n\n').value, 1)


if __name__ == '__main__':
    unittest.main()
