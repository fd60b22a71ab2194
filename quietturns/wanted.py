"""Wanted ways: lengths for which rows of routers are shortest ways, or what shows that there are none."""

from math import gcd

from quietturns.bases import Basis
from quietturns.errors import BadRows
from quietturns.nets import Net, are_links
from quietturns.rings import is_row
from quietturns.tables import distance, nexts
from quietturns.values import is_integer_from, is_rising, is_tuple_of

MOST_ROWS = 8


def wanted(net, rows):
    """("lengths", links) for which all rows are shortest ways, or ("bag", bag) if there are none."""
    need_rows(net, rows)
    basis = Basis(arcs_of(net.links))
    while True:
        lengths = basis.lengths()
        part, column = None, None
        short = [at for at, length in enumerate(lengths) if length < basis.whole]
        if short:
            column = basis.column_of_arc(short[0])
        else:
            found = with_lengths(net, lengths)
            part = shorter(found, rows)
            if part is None:
                return ("lengths", found.links)
            column = basis.column_of_swap(part)
        at = basis.first_lost(column)
        if at is None:
            return ("bag", bag_of(basis.growing(part, column)))
        basis.replace_part(at, part, column)


def shows_wanted(net, rows, value):
    """Whether this is such a result."""
    need_rows(net, rows)
    if not is_tuple_of(value, 2) or not isinstance(value[1], tuple):
        return False
    if value[0] == "lengths":
        return are_lengths(value[1], net) and shorter(Net(net.routers, value[1]), rows) is None
    return value[0] == "bag" and are_swaps(value[1], net, rows) and saves(value[1])


def need_rows(net, value):
    """Raises BadRows if this is no ascending tuple of 1 to 8 rows of the net."""
    if not isinstance(value, tuple) or not 1 <= len(value) <= MOST_ROWS:
        raise BadRows(value)
    if not all([is_linked(row, net) for row in value]) or not is_rising(value):
        raise BadRows(value)


def is_linked(value, net):
    """Whether this is a row of the net."""
    return is_row(value, net.routers) and all([net.length(a, n) is not None for a, n in zip(value, value[1:])])


def arcs_of(links):
    """The pairs of routers of these links, each there and back."""
    return [pair for a, b, there, back in links for pair in ((a, b), (b, a))]


def with_lengths(net, lengths):
    """The net with other lengths, there and back for each link in turn, as small as they can be in this proportion."""
    by = divisor(lengths)
    theres, backs = [length // by for length in lengths[::2]], [length // by for length in lengths[1::2]]
    return Net(net.routers, tuple([link[:2] + (theres[at], backs[at]) for at, link in enumerate(net.links)]))


def divisor(numbers):
    """The greatest common divisor of these integers."""
    by = 0
    for number in numbers:
        by = gcd(by, number)
    return by


def shorter(net, rows):
    """Any swap (row, other) in which the other is a shortest way and the row is none, None if all are."""
    for row in rows:
        if length_of(net, row) > distance(net, row[0], row[-1]):
            other = row[:1]
            while other[-1] != row[-1]:
                other = other + nexts(net, other[-1], row[-1])[:1]
            return (row, other)
    return None


def length_of(net, row):
    """The sum of the lengths of a row's links."""
    return sum([net.length(a, n) for a, n in zip(row, row[1:])])


def bag_of(times):
    """The bag of swaps with these times, as small as they can be in this proportion."""
    by = divisor(list(times.values()))
    return tuple(sorted([(row, other, times[row, other] // by) for row, other in times]))


def are_lengths(value, net):
    """Whether these are the links of the net with any lengths."""
    return are_links(value, net.routers) and [link[:2] for link in value] == [link[:2] for link in net.links]


def are_swaps(value, net, rows):
    """Whether this is an ascending tuple of swaps of these rows with their times, none twice."""
    return all([is_swap(each, net, rows) for each in value]) and is_rising([each[:2] for each in value])


def is_swap(value, net, rows):
    """Whether this is a triple of one of these rows, another one or itself with the same ends, and times."""
    if not is_tuple_of(value, 3) or value[0] not in rows or not is_linked(value[1], net):
        return False
    row, other, times = value
    return (row[0], row[-1]) == (other[0], other[-1]) and is_integer_from(times, 1)


def saves(bag):
    """Whether the others go over no link more often than the rows do, and over some link less often."""
    more = {}
    for row, other, times in bag:
        for link in zip(row, row[1:]):
            more[link] = more.get(link, 0) - times
        for link in zip(other, other[1:]):
            more[link] = more.get(link, 0) + times
    return max(more.values(), default=1) <= 0 and min(more.values()) < 0
