"""Point 16.1, and of G6 what it says of journals."""

import random
import unittest

from plain_yard import PlainYard, drawn_run, is_event_of, seen
from quietturns.errors import BadNet, BadText
from quietturns.journals import read_journal
from quietturns.nets import Net
from quietturns.texts import show_net, show_run
from quietturns.yard import Yard
from support import GREAT, SQUARE, Case, any_values, full_net, great_net, some_nets
from test_texts import changed_words, event_in, parts_in

TEXT = 'routers a b c d\nlink a b 1 1\nlink a d 5 5\nlink b c 1 1\nlink c d 1 1'
EVENTS = 'out c d\nlearn b\nsend a d\nhop 0 b\nhop 0 a\nset a b 3 1'
JOURNAL = f'{TEXT}\nrun\n{EVENTS}'


def read_plainly(text):
    """A yard of the tests' own from a text; the index of a row, or the parts of a net, for the errors."""
    rows = text.split('\n')
    begins = [at for at, row in enumerate(rows) if row in ('run', 'strict')]
    head = rows[:begins[0]] if begins else rows
    if not head:
        return 0
    parts = parts_in('\n'.join(head))
    if isinstance(parts, int):
        return parts
    if not begins:
        return len(rows)
    events = [event_in(row) for row in rows[begins[0] + 1:]]
    if None in events:
        return begins[0] + 1 + events.index(None)
    try:
        plain = PlainYard(Net(*parts), rows[begins[0]] == 'strict')
    except BadNet:
        return parts
    for at, event in enumerate(events, begins[0] + 1):
        if not is_event_of(plain.first, event) or not plain.can(event) or plain.strict and plain.ring(event):
            return at
        plain.run.append(event)
    return plain


class Journals(Case):

    def reads(self, text):
        """Expects the yard that the text has, or the error that it is to raise; returns which."""
        expected = read_plainly(text)
        with self.subTest(text=text):
            if isinstance(expected, int):
                self.assertEqual(self.raised(BadText, read_journal, text).value, expected)
                return 'text'
            if isinstance(expected, tuple):
                self.assertEqual(self.raised(BadNet, read_journal, text).value, expected)
                return 'net'
            yard = read_journal(text)
            self.assertIs(yard.__class__, Yard)
            self.assertEqual(seen(yard), expected.seen())
            self.assertEqual(yard.journal, text)
            return 'read'

    def test_there_and_back(self):
        source = random.Random(101)
        for net in some_nets(30, 6, 10, 999999999, seed=101) + [SQUARE, full_net(), great_net(1, 999999999)]:
            for strict in (False, True):
                plain = drawn_run(source, net, 25, strict)
                yard = Yard(net, strict=strict)
                for event in plain.run:
                    yard.do(event)
                text = yard.journal
                rows = [show_net(net), 'strict' if strict else 'run'] + ([show_run(yard.events)] if plain.run else [])
                self.assertEqual(text, '\n'.join(rows))
                self.assertEqual(self.reads(text), 'read')
                self.assertEqual(read_journal(text), yard)
                self.assertEqual(seen(read_journal(text)), seen(yard))

    def test_without_events(self):
        self.assertEqual(Yard(SQUARE).journal, TEXT + '\nrun')
        self.assertEqual(Yard(SQUARE, strict=True).journal, TEXT + '\nstrict')
        for word in ('run', 'strict'):
            self.assertEqual(self.reads(f'{TEXT}\n{word}'), 'read')
            self.assertEqual(self.raised(BadText, read_journal, f'{TEXT}\n{word}\n').value, 6)

    def test_the_net_at_the_beginning(self):
        yard = read_journal(JOURNAL)
        self.assertEqual(yard.journal, JOURNAL)
        self.assertEqual(yard.net, SQUARE.without('c', 'd').with_link('a', 'b', 3, 1))
        while yard.events:
            yard.back()
        self.assertEqual(yard, Yard(SQUARE))

    def test_numbers_of_nine_digits_and_of_ten(self):
        for length in (999999999, 1000000000, 9999999999, GREAT):
            yard = Yard(SQUARE)
            yard.do(('set', 'a', 'b', length, 1))
            self.assertIn(f'\nset a b {length} 1', yard.journal)
            self.assertEqual(self.reads(yard.journal), 'read' if length < 10 ** 9 else 'text')
            net = SQUARE.with_link('a', 'b', 1, length)
            self.assertEqual(self.reads(Yard(net).journal), 'read' if length < 10 ** 9 else 'text')

    def test_the_row_run_or_strict(self):
        rows = JOURNAL.split('\n')
        for word in ('run', 'strict', 'run ', ' run', 'Run', 'run run', 'strict run', ''):
            for at in range(len(rows) + 1):
                # Once more, at another place, and alone at this place.
                self.reads('\n'.join(rows[:at] + [word] + rows[at:]))
                others = [row for row in rows if row != 'run']
                self.reads('\n'.join(others[:at] + [word] + others[at:]))
        # Missing.
        self.assertEqual(self.raised(BadText, read_journal, TEXT).value, 5)
        self.assertEqual(self.raised(BadText, read_journal, TEXT.replace('link a b 1 1\n', '')).value, 4)
        self.assertEqual(self.raised(BadText, read_journal, 'routers').value, 1)
        self.assertEqual(self.raised(BadText, read_journal, 'routers b a').value, 1)
        # Events without it, with it too late, twice.
        self.assertEqual(self.raised(BadText, read_journal, f'{TEXT}\n{EVENTS}').value, 5)
        self.assertEqual(self.raised(BadText, read_journal, f'{TEXT}\nlearn a\nrun').value, 5)
        self.assertEqual(self.raised(BadText, read_journal, f'{TEXT}\nrun\nrun').value, 6)
        self.assertEqual(self.raised(BadText, read_journal, f'{TEXT}\nrun\nstrict').value, 6)
        self.assertEqual(self.raised(BadText, read_journal, f'run\n{TEXT}').value, 0)
        self.assertEqual(self.raised(BadText, read_journal, 'strict').value, 0)

    def test_rows_of_the_net_behind_it(self):
        for row in TEXT.split('\n'):
            self.assertEqual(self.raised(BadText, read_journal, f'{TEXT}\nrun\n{row}').value, 6)
            self.assertEqual(self.raised(BadText, read_journal, f'{JOURNAL}\n{row}').value, 12)

    def test_changed_words(self):
        found = {'text': 0, 'net': 0, 'read': 0}
        rows = JOURNAL.split('\n')
        for at, row in enumerate(rows):
            for other in changed_words(row):
                found[self.reads('\n'.join(rows[:at] + [other] + rows[at + 1:]))] += 1
        self.assertGreater(min(found.values()), 20)

    def test_changed_rows(self):
        rows = JOURNAL.split('\n')
        for at, row in enumerate(rows):
            for other in (rows[:at] + rows[at + 1:], rows[:at] + [row, row] + rows[at + 1:], rows[at:] + rows[:at],
                          rows[:at] + [''] + rows[at:], rows[:at], rows[:at] + rows[at:][::-1]):
                self.reads('\n'.join(other))
        for text in ('', '\n', ' ', 'routers\nrun', 'routers a\nrun', 'routers a b\nrun', 'routers \nrun',
                     'routers a b\nrun\n',
                     JOURNAL + '\n', '\n' + JOURNAL, JOURNAL.replace('\n', '\r\n')):
            self.reads(text)

    def test_routers_with_no_name(self):
        self.assertEqual(self.raised(BadNet, read_journal, 'routers\nrun').value, ((), ()))
        self.assertEqual(self.raised(BadNet, read_journal, 'routers\nrun\nlearn a').value, ((), ()))
        self.assertEqual(self.raised(BadText, read_journal, 'routers\nrun\nlearn A').value, 2)

    def test_events_that_a_yard_refuses(self):
        rows = EVENTS.split('\n')
        # At the first, a middle and the last row: not now, of other routers, and in no order.
        for word in ('run', 'strict'):
            for at in (0, 2, len(rows)):
                for row in ('drop 0', 'hop 7 a', 'send a a', 'learn z', 'send a zz', 'set a c 1 1', 'out b d',
                            'out a z',
                            'learn b', 'set b a 1 1', 'hop 0 z'):
                    self.reads('\n'.join([TEXT, word] + rows[:at] + [row] + rows[at:]))
        self.assertEqual(self.raised(BadText, read_journal, f'{TEXT}\nrun\ndrop 0\nlearn a').value, 6)
        self.assertEqual(self.raised(BadText, read_journal, f'{JOURNAL}\nlearn b\nlearn b').value, 13)

    def test_a_strict_yard_refuses_turns(self):
        self.assertEqual(self.raised(BadText, read_journal, JOURNAL.replace('\nrun', '\nstrict')).value, 10)
        self.assertEqual(read_journal(JOURNAL).turned, ((0, 'a'),))

    def test_the_errors_in_their_order(self):
        # A row without a form, then no net, then an event that cannot happen.
        bad = 'routers b a\nrun\ndrop 0'
        self.assertEqual(self.raised(BadNet, read_journal, bad).value, (('b', 'a'), ()))
        self.assertEqual(self.raised(BadText, read_journal, bad + '\nx').value, 3)
        self.assertEqual(self.raised(BadText, read_journal, f'{TEXT}\nrun\ndrop 0\nx').value, 7)
        self.assertEqual(self.raised(BadText, read_journal, 'routers b a\nx\nrun\nx').value, 1)

    def test_what_is_no_text(self):
        for value in any_values() + [b'routers a b\nrun']:
            if isinstance(value, str):
                self.assertEqual(self.raised(BadText, read_journal, value).value, 0)
            else:
                self.assertIsNone(self.raised(BadText, read_journal, value).value)

    def test_by_name(self):
        self.assertEqual(read_journal(text=JOURNAL).events, read_journal(JOURNAL).events)


if __name__ == '__main__':
    unittest.main()
