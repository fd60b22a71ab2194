"""Section 4, and of section 2 what it says of names, integers, tuples and any values."""

import copy
import unittest

import support
from quietturns.errors import BadLength, BadLink, BadNet, NoLink, NoRouter, TooMany
from quietturns.nets import Net
from support import EIGHT, GREAT, PAIRS, SQUARE, any_values, full_net, is_length, nested, repr_of, some_nets

NINE = EIGHT + ('i',)


class Case(support.Case):

    def bad_net(self, routers, links):
        """Expects BadNet with the pair of both, just as they were passed."""
        before = copy.deepcopy((routers, links))
        value = self.raised(BadNet, Net, routers, links).value
        self.pair_of(value, routers, links)
        self.assertEqual(repr_of(value), repr_of(before))


class Creating(Case):

    def test_what_is_passed_is_kept(self):
        links = (('a', 'b', 1, 2), ('a', 'c', 3, 4), ('b', 'c', 5, 6))
        net = Net(('a', 'b', 'c'), links)
        self.assertEqual(net.routers, ('a', 'b', 'c'))
        self.assertEqual(net.links, links)
        self.assertIs(net.routers.__class__, tuple)
        self.assertIs(net.links.__class__, tuple)

    def test_by_name(self):
        self.assertEqual(Net(links=SQUARE.links, routers=SQUARE.routers), SQUARE)

    def test_2_to_8_routers(self):
        for many in range(2, 9):
            self.assertEqual(Net(EIGHT[:many], ()).routers, EIGHT[:many])
        for many in (0, 1, 9):
            self.bad_net(NINE[:many], ())

    def test_no_links_and_up_to_16(self):
        rows = tuple(pair + (1, 1) for pair in PAIRS)
        for many in range(17):
            self.assertEqual(Net(EIGHT, rows[:many]).links, rows[:many])
        for many in (17, 18, 28):
            self.bad_net(EIGHT, rows[:many])

    def test_names(self):
        for name in ('a', 'z', 'az', 'abcdefgh', 'zzzzzzzz', 'link', 'routers'):
            self.assertEqual(Net(tuple(sorted((name, 'm'))), ()).routers, tuple(sorted((name, 'm'))))
        for name in ('', 'aaaaaaaaa', 'abcdefghi', 'A', 'aB', 'Z', 'a b', ' ', 'a-', 'a_', '1', 'a1', 'a\n',
                     '`', '{', 'a{', '\u00e9', 'a\u00e9', '\u00df', '\u03b1', '\uff41', '\u0131'):
            with self.subTest(name):
                self.bad_net(tuple(sorted((name, 'm'))), ())

    def test_any_values_as_routers(self):
        for value in any_values():
            if value != ('a', 'b'):
                with self.subTest(repr_of(value)):
                    self.bad_net(value, ())

    def test_any_values_as_one_router(self):
        for value in any_values():
            if value not in ('e', 'ab'):
                with self.subTest(repr_of(value)):
                    self.bad_net((value, 'zz'), ())
                    self.bad_net(('a', value), ())
                    self.bad_net(('a', value, 'zz'), ())

    def test_routers_ascend(self):
        for routers in (('b', 'a'), ('a', 'a'), ('a', 'b', 'b'), ('a', 'c', 'b'), ('b', 'a', 'c'), ('b', 'ab'),
                        ('a', 'b', 'c', 'a'), EIGHT[::-1]):
            self.bad_net(routers, ())
        self.assertEqual(Net(('a', 'aa', 'ab', 'b'), ()).routers, ('a', 'aa', 'ab', 'b'))

    def test_lists_in_place_of_tuples(self):
        self.bad_net(['a', 'b'], ())
        self.bad_net(('a', 'b'), [])
        self.bad_net(('a', 'b'), [('a', 'b', 1, 1)])
        self.bad_net(('a', 'b'), (['a', 'b', 1, 1],))
        self.bad_net(['a', 'b'], [['a', 'b', 1, 1]])
        self.bad_net('ab', ())
        self.bad_net({'a': 1, 'b': 2}, ())

    def test_any_values_as_links(self):
        for value in any_values():
            if value not in ((), (('a', 'b', 1, 1),)):
                with self.subTest(repr_of(value)):
                    self.bad_net(('a', 'b'), value)

    def test_any_values_as_one_link(self):
        for value in any_values():
            with self.subTest(repr_of(value)):
                self.bad_net(('a', 'b', 'c'), (value,))
                self.bad_net(('a', 'b', 'c'), (('a', 'b', 1, 1), value))
                self.bad_net(('a', 'b', 'c'), (value, ('b', 'c', 1, 1)))

    def test_links_have_four_parts(self):
        for link in ((), ('a',), ('a', 'b'), ('a', 'b', 1), ('a', 'b', 1, 1, 1), 'abab', (('a', 'b'), 1, 1)):
            self.bad_net(('a', 'b'), (link,))

    def test_any_values_as_a_part_of_a_link(self):
        for value in any_values():
            with self.subTest(repr_of(value)):
                self.bad_net(('a', 'c'), ((value, 'c', 1, 1),))
                self.bad_net(('a', 'c'), (('a', value, 1, 1),))
                if is_length(value):
                    Net(('a', 'b'), (('a', 'b', value, value),))
                else:
                    self.bad_net(('a', 'b'), (('a', 'b', value, 1),))
                    self.bad_net(('a', 'b'), (('a', 'b', 1, value),))

    def test_lengths(self):
        for length in (1, 2, 9999999999, GREAT):
            self.assertEqual(Net(('a', 'b'), (('a', 'b', length, 1),)).links, (('a', 'b', length, 1),))
            self.assertEqual(Net(('a', 'b'), (('a', 'b', 1, length),)).links, (('a', 'b', 1, length),))
        for length in (0, -1, -GREAT, True, False, None, '1', 1.0, (1,), [1]):
            self.bad_net(('a', 'b'), (('a', 'b', length, 1),))
            self.bad_net(('a', 'b'), (('a', 'b', 1, length),))

    def test_links_join_two_routers_in_order(self):
        for pair in (('b', 'a'), ('a', 'a'), ('a', 'd'), ('d', 'a'), ('d', 'e'), ('A', 'b'), ('', 'a'), ('aa', 'b')):
            self.bad_net(('a', 'b', 'c'), (pair + (1, 1),))

    def test_links_ascend(self):
        ab, ac, bc = ('a', 'b', 9, 9), ('a', 'c', 5, 5), ('b', 'c', 1, 1)
        self.assertEqual(Net(('a', 'b', 'c'), (ab, ac, bc)).links, (ab, ac, bc))
        for links in ((ac, ab), (bc, ab), (bc, ac), (ab, bc, ac), (ac, ab, bc), (bc, ac, ab)):
            self.bad_net(('a', 'b', 'c'), links)

    def test_at_most_one_link_for_a_pair(self):
        for second in (('a', 'b', 1, 1), ('a', 'b', 1, 2), ('a', 'b', 2, 1)):
            self.bad_net(('a', 'b'), (('a', 'b', 1, 1), second))
            self.bad_net(('a', 'b', 'c'), (('a', 'b', 1, 1), second, ('b', 'c', 1, 1)))
        self.bad_net(('a', 'b'), (('a', 'b', 1, 1), ('b', 'a', 1, 1)))

    def test_two_wrong_things_at_once(self):
        self.bad_net(('b', 'a'), (('b', 'a', 0, True),))
        self.bad_net(['a'], {'a': 1})
        self.bad_net(nested(lambda value: (value,)), nested(lambda value: [value]))
        self.bad_net(NINE, tuple(pair + (0, 0) for pair in PAIRS))


class Reading(Case):

    def test_length_by_direction(self):
        net = Net(('a', 'b', 'c'), (('a', 'b', 3, 7), ('b', 'c', GREAT, 1)))
        self.assertEqual([net.length('a', 'b'), net.length('b', 'a')], [3, 7])
        self.assertEqual([net.length('b', 'c'), net.length('c', 'b')], [GREAT, 1])
        self.assertEqual(net.length(b='a', a='b'), 7)

    def test_none_without_a_link(self):
        net = Net(('a', 'b', 'c'), (('a', 'b', 3, 7),))
        for a, b in (('a', 'c'), ('c', 'a'), ('b', 'c'), ('c', 'b'), ('a', 'a'), ('b', 'b'), ('c', 'c')):
            self.assertIsNone(net.length(a, b))

    def test_every_length_of_every_net(self):
        for net in some_nets(60) + [full_net()]:
            lengths = {}
            for a, b, there, back in net.links:
                lengths[a, b], lengths[b, a] = there, back
            for a in net.routers:
                for b in net.routers:
                    self.assertEqual(net.length(a, b), lengths.get((a, b)))

    def test_no_router(self):
        for value in any_values():
            for a in SQUARE.routers:
                self.assertIs(self.raised(NoRouter, SQUARE.length, value, a).value, value)
                self.assertIs(self.raised(NoRouter, SQUARE.length, a, value).value, value)

    def test_no_router_names_the_first(self):
        for first in any_values():
            for second in any_values():
                self.assertIs(self.raised(NoRouter, SQUARE.length, first, second).value, first)

    def test_equal_nets(self):
        again = Net(('a', 'b', 'c', 'd'), (('a', 'b', 1, 1), ('a', 'd', 5, 5), ('b', 'c', 1, 1), ('c', 'd', 1, 1)))
        self.assertTrue(SQUARE == again)
        self.assertFalse(SQUARE != again)
        self.assertTrue(SQUARE == copy.deepcopy(SQUARE))

    def test_unequal_nets(self):
        net = Net(('a', 'b'), (('a', 'b', 1, 2),))
        for other in (Net(('a', 'c'), (('a', 'c', 1, 2),)), Net(('a', 'b', 'c'), (('a', 'b', 1, 2),)),
                      Net(('a', 'b'), (('a', 'b', 2, 1),)), Net(('a', 'b'), (('a', 'b', 1, 3),)), Net(('a', 'b'), ())):
            self.assertFalse(net == other)
            self.assertTrue(net != other)

    def test_a_net_equals_nothing_else(self):
        net = Net(('a', 'b'), ())
        for value in [*any_values(), (net.routers, net.links), [net], (net,), net.routers, net.links]:
            if not isinstance(value, Net):
                self.assertFalse(net == value)
                self.assertTrue(net != value)
                self.assertFalse(value == net)

    def test_a_net_stays_as_it_was(self):
        for name, value in (('routers', ('x', 'y')), ('links', ())):
            with self.assertRaises(AttributeError):
                setattr(SQUARE, name, value)
            with self.assertRaises(AttributeError):
                delattr(SQUARE, name)
        self.assertEqual(SQUARE.routers, ('a', 'b', 'c', 'd'))
        self.assertEqual(len(SQUARE.links), 4)


class Linking(Case):

    def test_a_link_comes_to_its_place(self):
        net = Net(('a', 'b', 'c'), (('a', 'c', 9, 9),))
        self.assertEqual(net.with_link('a', 'b', 3, 4).links, (('a', 'b', 3, 4), ('a', 'c', 9, 9)))
        self.assertEqual(net.with_link('b', 'c', 3, 4).links, (('a', 'c', 9, 9), ('b', 'c', 3, 4)))
        self.assertEqual(net.with_link('b', 'c', 3, 4).routers, net.routers)
        self.assertEqual(net.links, (('a', 'c', 9, 9),))
        self.assertIs(net.with_link('b', 'c', 3, 4).__class__, Net)

    def test_a_link_replaces_one(self):
        self.assertEqual(SQUARE.with_link('b', 'c', 7, 8).links,
                         (('a', 'b', 1, 1), ('a', 'd', 5, 5), ('b', 'c', 7, 8), ('c', 'd', 1, 1)))
        self.assertEqual(SQUARE.with_link('a', 'b', 1, 1), SQUARE)
        self.assertEqual(SQUARE.with_link('a', 'b', GREAT, 1).length('a', 'b'), GREAT)
        self.assertEqual(SQUARE.with_link('a', 'b', 1, GREAT).length('b', 'a'), GREAT)

    def test_by_name(self):
        self.assertEqual(SQUARE.with_link(back=4, there=3, b='c', a='a'), SQUARE.with_link('a', 'c', 3, 4))
        self.assertEqual(SQUARE.with_link('a', 'c', 3, 4).without(b='c', a='a'), SQUARE)

    def test_links_are_tuples_and_equal_calls_give_equal_nets(self):
        net = SQUARE.with_link('a', 'c', 3, 4)
        self.assertEqual(net, SQUARE.with_link('a', 'c', 3, 4))
        for links in (net.links, net.without('a', 'b').links):
            self.assertIs(links.__class__, tuple)
            for link in links:
                self.assertIs(link.__class__, tuple)
        self.assertEqual(net.without('a', 'b'), SQUARE.with_link('a', 'c', 3, 4).without('a', 'b'))

    def test_no_router(self):
        for value in any_values():
            for name in SQUARE.routers:
                self.assertIs(self.raised(NoRouter, SQUARE.with_link, value, name, 1, 1).value, value)
                self.assertIs(self.raised(NoRouter, SQUARE.with_link, name, value, 1, 1).value, value)
            for other in any_values():
                self.assertIs(self.raised(NoRouter, SQUARE.with_link, value, other, 1, 1).value, value)

    def test_bad_link(self):
        for a in SQUARE.routers:
            for b in SQUARE.routers:
                if a >= b:
                    self.pair_of(self.raised(BadLink, SQUARE.with_link, a, b, 1, 1).value, a, b)

    def test_bad_length(self):
        for value in any_values():
            if not is_length(value):
                for b in ('b', 'c'):
                    self.assertIs(self.raised(BadLength, SQUARE.with_link, 'a', b, value, 1).value, value)
                    self.assertIs(self.raised(BadLength, SQUARE.with_link, 'a', b, 1, value).value, value)
                for other in any_values():
                    self.assertIs(self.raised(BadLength, SQUARE.with_link, 'a', 'b', value, other).value, value)
        self.assertEqual(self.raised(BadLength, SQUARE.with_link, 'a', 'b', 0, -1).value, 0)
        self.assertIs(self.raised(BadLength, SQUARE.with_link, 'a', 'b', True, 0).value, True)

    def test_sixteen_links_and_a_seventeenth(self):
        net = full_net()
        self.assertEqual(len(net.links), 16)
        before = repr_of(net)
        self.raised(TooMany, net.with_link, 'a', 'g', 1, 1)
        self.raised(TooMany, net.with_link, 'f', 'h', GREAT, 1)
        self.assertEqual(repr_of(net), before)
        a, b = net.links[15][:2]
        fewer = net.without(a, b)
        self.assertEqual(len(fewer.with_link('a', 'g', 1, 1).links), 16)

    def test_one_of_sixteen_links_is_replaced(self):
        net = full_net()
        for a, b, there, back in net.links:
            other = net.with_link(a, b, 77, 78)
            self.assertEqual(other.links, tuple((a, b, 77, 78) if link[:2] == (a, b) else link for link in net.links))

    def test_the_sequence_of_errors(self):
        net = full_net()
        self.assertEqual(self.raised(NoRouter, net.with_link, 'b', 'z', 0, True).value, 'z')
        self.assertEqual(self.raised(NoRouter, net.with_link, 'z', 'a', 0, 0).value, 'z')
        self.assertEqual(self.raised(NoRouter, net.with_link, 'z', 'y', 0, 0).value, 'z')
        self.assertEqual(self.raised(BadLink, net.with_link, 'h', 'a', 0, True).value, ('h', 'a'))
        self.assertEqual(self.raised(BadLink, net.with_link, 'h', 'a', 1, 1).value, ('h', 'a'))
        self.assertEqual(self.raised(BadLink, net.with_link, 'a', 'a', 1, 1).value, ('a', 'a'))
        self.assertEqual(self.raised(BadLength, net.with_link, 'a', 'h', 0, 1).value, 0)
        self.assertEqual(self.raised(BadLength, net.with_link, 'a', 'h', 1, -3).value, -3)
        self.raised(TooMany, net.with_link, 'a', 'h', 1, 1)


class Unlinking(Case):

    def test_the_link_goes(self):
        self.assertEqual(SQUARE.without('a', 'd').links, (('a', 'b', 1, 1), ('b', 'c', 1, 1), ('c', 'd', 1, 1)))
        self.assertEqual(SQUARE.without('a', 'd').routers, SQUARE.routers)
        self.assertIsNone(SQUARE.without('a', 'd').length('d', 'a'))
        self.assertEqual(Net(('a', 'b'), (('a', 'b', 1, 1),)).without('a', 'b'), Net(('a', 'b'), ()))

    def test_every_link_of_every_net(self):
        for net in some_nets(60) + [full_net()]:
            for link in net.links:
                less = net.without(link[0], link[1])
                self.assertEqual(less.links, tuple(other for other in net.links if other != link))
                self.assertEqual(less.with_link(*link), net)

    def test_no_link(self):
        self.assertEqual(self.raised(NoLink, SQUARE.without, 'b', 'a').value, ('b', 'a'))
        for a, b in (('a', 'c'), ('c', 'a'), ('d', 'a'), ('a', 'a'), ('a', 'z'), ('z', 'a'), ('x', 'y')):
            self.pair_of(self.raised(NoLink, SQUARE.without, a, b).value, a, b)
        less = SQUARE.without('a', 'b')
        self.assertEqual(self.raised(NoLink, less.without, 'a', 'b').value, ('a', 'b'))

    def test_any_values(self):
        for value in any_values():
            self.pair_of(self.raised(NoLink, SQUARE.without, value, 'b').value, value, 'b')
            self.pair_of(self.raised(NoLink, SQUARE.without, 'a', value).value, 'a', value)
            for other in any_values():
                self.pair_of(self.raised(NoLink, SQUARE.without, value, other).value, value, other)


if __name__ == '__main__':
    unittest.main()
