"""What sections 10 to 13 say, looked for by trying everything: slow, plain, and without the functions to be tested."""

from collections import Counter
from fractions import Fraction
from itertools import combinations, permutations, product

from quietturns.nets import Net
from search import are_integers, are_routers, can_turn, is_ascending, is_tuple, subsets, tables_of


# Section 10.

def at_moment(tables, moment):
    """The tables at a moment, of those of old and new."""
    return {key: tables[key[0] in moment][key] for key in tables[0]}


def walked_loads(tables, demands):
    """The load of each pair as a Fraction: each amount is walked on, share by share."""
    found = Counter()
    waiting = [(router, d, Fraction(amount)) for router, d, amount in demands]
    while waiting:
        router, d, amount = waiting.pop()
        for n in tables[router, d]:
            share = amount / len(tables[router, d])
            found[router, n] += share
            waiting.append((n, d, share))
    return found


def pair_of(load):
    """A fraction as the package gives it."""
    return load.numerator, load.denominator


def loads_of(tables, demands):
    """The ascending tuple of (a, b, load)."""
    found = walked_loads(tables, demands)
    return tuple((a, b, pair_of(found[a, b])) for a, b in sorted(found))


def ring_at(tables, routers):
    """The least destination for which these tables have a ring, None without one."""
    for d in routers:
        left = set(routers)
        while any(not left & set(tables[a, d]) for a in left):
            left = {a for a in left if left & set(tables[a, d])}
        if left:
            return d
    return None


def turning_for(old, new):
    """The least destination for which a packet can turn, None if none can."""
    for d in old.routers:
        tables = [{key: row if key[1] == d else () for key, row in tables_of(net).items()} for net in (old, new)]
        if can_turn(*tables, old.routers):
            return d
    return None


def worst_loads(old, new, demands):
    """For each pair the greatest load at any moment, and all moments at which it is reached."""
    tables, found = (tables_of(old), tables_of(new)), {}
    for moment in subsets(old.routers):
        for pair, load in walked_loads(at_moment(tables, moment), demands).items():
            best, moments = found.get(pair, (0, []))
            if load >= best:
                found[pair] = (load, [moment] if load > best else moments + [moment])
    return found


# Section 11.

class Steps:
    """All steps between the integers from 0 to goal, with what each of them does."""

    def __init__(self, line, goal, demands=(), caps=()):
        self.goal, self.demands, self.caps = goal, demands, caps
        self.nets = [grown(line.net, line.rates, t) for t in range(goal + 1)]
        self.tables = [tables_of(net) for net in self.nets]
        self.known = {}

    def classes(self):
        """The tuple of the pairs (first, last)."""
        firsts = [t for t in range(self.goal + 1) if not t or self.tables[t] != self.tables[t - 1]]
        return tuple((first, beyond - 1) for first, beyond in zip(firsts, firsts[1:] + [self.goal + 1]))

    def is_fine(self, low, high):
        """Whether this step is fine."""
        if (low, high) not in self.known:
            self.known[low, high] = self.played(self.nets[low], self.nets[high])
        return self.known[low, high]

    def played(self, old, new):
        if can_turn(tables_of(old), tables_of(new), old.routers):
            return False
        found = worst_loads(old, new, self.demands) if self.caps else {}
        return all(found.get((a, b), (0,))[0] <= cap for a, b, cap in self.caps)

    def fewest(self):
        """How few stops are needed, None if none are enough."""
        reached, many = {t for t in range(1, self.goal + 1) if self.is_fine(0, t)}, 0
        while self.goal not in reached:
            further = {t for low in reached for t in range(low + 1, self.goal + 1) if self.is_fine(low, t)}
            if further <= reached:
                return None
            reached, many = reached | further, many + 1
        return many

    def fits_steps(self, value, fewest):
        """Whether value is a right result of steps, of which there are so few stops."""
        if not is_tuple(value) or not value or value[0].__class__ is not str:
            return False
        if value[0] == 'none':
            return len(value) == 2 and fewest is None and self.fit_levels(value[1], None)
        if len(value) != 3 or value[0] != 'steps' or not are_integers(value[1], fewest) or fewest is None:
            return False
        return self.are_fine(value[1]) and self.fit_levels(value[2], fewest + 1)

    def are_fine(self, stops):
        """Whether these are stops with fine steps alone."""
        row = [0, *stops, self.goal]
        return all(low < high for low, high in zip(row, row[1:])) and all(
            self.is_fine(low, high) for low, high in zip(row, row[1:]))

    def fit_levels(self, levels, last):
        """Whether these are right levels, with this one for the class of goal."""
        classes = self.classes()
        if not is_tuple(levels, len(classes)) or levels[-1] != last:
            return False
        if any(level is not None and (level.__class__ is not int or level < 1) for level in levels):
            return False
        level = {t: levels[at] for at, (first, last) in enumerate(classes) for t in range(first, last + 1)}
        for low, high in combinations(range(self.goal + 1), 2):
            most = 1 if low == 0 else None if level[low] is None else level[low] + 1
            if most is not None and (level[high] is None or level[high] > most) and self.is_fine(low, high):
                return False
        return True

    def cheapest(self, offers):
        """The least (price, number of stops, stops), None if there are no fine steps."""
        ways = []
        for taken in subsets(offers):
            stops = tuple(t for t, _ in taken)
            if self.are_fine(stops):
                ways.append((sum(price for _, price in taken), len(stops), stops))
        return min(ways, default=None)

    def fits_cheapest(self, value, offers):
        """Whether value is what shows_cheapest tells to be right."""
        if not is_tuple(value) or not value or value[0].__class__ is not str:
            return False
        if value[0] == 'none':
            return len(value) == 2 and self.fit_papers(value[1], offers, None)
        if len(value) != 4 or value[0] != 'stops' or not are_integers(value[1]) or value[2].__class__ is not int:
            return False
        prices = dict(offers)
        if any(t not in prices for t in value[1]) or sum(prices[t] for t in value[1]) != value[2]:
            return False
        return self.are_fine(value[1]) and self.fit_papers(value[3], offers, value[2])

    def fit_papers(self, papers, offers, price):
        """Whether these are right papers, with this number of goal."""
        if not is_tuple(papers, len(offers) + 1) or papers[-1] != price:
            return False
        if any(paper is not None and paper.__class__ is not int for paper in papers):
            return False
        places = [(0, 0, 0)] + [(t, more, paper) for (t, more), paper in zip((*offers, (self.goal, 0)), papers)]
        for (low, _, before), (high, more, paper) in combinations(places, 2):
            if before is not None and (paper is None or paper > before + more) and self.is_fine(low, high):
                return False
        return True


def grown(net, rates, t):
    """The net at t."""
    more = {(a, b): rate * t for a, b, rate in rates}
    return Net(net.routers, tuple((a, b, there + more.get((a, b), 0), back + more.get((a, b), 0))
                                  for a, b, there, back in net.links))


# Section 12.

def without(net, a, b):
    """The net without a link."""
    return Net(net.routers, tuple(link for link in net.links if link[:2] != (a, b)))


def played_fall(net, a, b):
    """What can befall packets as the link falls: whether one turns, and all (router, d) from which it loses one."""
    tables, turns, losers = (tables_of(net), tables_of(without(net, a, b))), False, set()
    for start in net.routers:
        for d in net.routers:
            waiting = [(start, frozenset([start]), frozenset())]
            seen = set(waiting)
            while waiting:
                at, visited, learnt = waiting.pop()
                states = [(at, visited, learnt | {router}) for router in net.routers]
                for n in tables[at in learnt][at, d]:
                    if (at, n) in ((a, b), (b, a)):
                        losers.add((start, d))
                    elif n in visited:
                        turns = True
                    else:
                        states.append((n, visited | {n}, learnt))
                waiting += [state for state in states if state not in seen]
                seen.update(states)
    return turns, tuple(sorted(losers))


def word_of_fall(net, a, b):
    """The word of falls for a link."""
    before, after = tables_of(net), tables_of(without(net, a, b))
    if played_fall(net, a, b)[0]:
        return 'turns'
    return 'parts' if any(before[key] and not after[key] for key in before) else 'quiet'


def rows_back(net, d, start, end):
    """All rows of different routers from start to end, each a next router of the one before."""
    tables, found, waiting = tables_of(net), [], [(start,)]
    while waiting:
        row = waiting.pop()
        if row[-1] == end:
            found.append(row)
        else:
            waiting += [row + (n,) for n in tables[row[-1], d] if n not in row]
    return found


def neighbours(net, router):
    """The routers to which it has a link."""
    return [n for n in net.routers if net.length(router, n) is not None]


def walked_alternates(net, a, b):
    """The ascending tuple of (end, d, neighbours)."""
    tables, found = tables_of(net), []
    for end, other in ((a, b), (b, a)):
        for d in net.routers:
            if d != end and tables[end, d] == (other,):
                near = [n for n in neighbours(net, end) if n != other]
                found.append((end, d, tuple(n for n in near if not rows_back(net, d, n, end))))
    return tuple(found)


# Section 13.

def all_rows(net):
    """All rows of the net."""
    found = [row for many in range(2, len(net.routers) + 1) for row in permutations(net.routers, many)]
    return [row for row in found if is_row(net, row)]


def is_row(net, value):
    """Whether value is a row of the net."""
    return are_routers(value, net.routers) and len(value) > 1 and len(set(value)) == len(value) and all(
        net.length(a, n) is not None for a, n in zip(value, value[1:]))


def are_shortest(routers, links, rows):
    """Whether with these links all rows are shortest ways."""
    tables = tables_of(Net(routers, links))
    return all(n in tables[a, row[-1]] for row in rows for a, n in zip(row, row[1:]))


def small_lengths(net, rows, greatest):
    """Links of the net with lengths up to greatest for which all rows are shortest ways, None if there are none."""
    for lengths in product(range(1, greatest + 1), repeat=2 * len(net.links)):
        links = tuple(link[:2] + lengths[2 * at:2 * at + 2] for at, link in enumerate(net.links))
        if are_shortest(net.routers, links, rows):
            return links
    return None


def fits_wanted(net, rows, value):
    """Whether value is a right result of wanted."""
    if not is_tuple(value, 2) or value[0].__class__ is not str or not is_tuple(value[1]):
        return False
    if value[0] == 'lengths':
        return len(value[1]) == len(net.links) and all(
            is_tuple(link, 4) and are_routers(link[:2], net.routers) and link[:2] == other[:2]
            and are_integers(link[2:]) and min(link[2:]) > 0 for link, other in zip(value[1], net.links)
        ) and are_shortest(net.routers, value[1], rows)
    return value[0] == 'bag' and fits_bag(net, rows, value[1])


def fits_bag(net, rows, bag):
    """Whether this is a right bag, by counting."""
    counts = Counter()
    for each in bag:
        if not is_tuple(each, 3) or not is_row(net, each[0]) or each[0] not in rows or not is_row(net, each[1]):
            return False
        row, other, times = each
        if times.__class__ is not int or times < 1 or (row[0], row[-1]) != (other[0], other[-1]):
            return False
        counts.update({arc: times for arc in zip(other, other[1:])})
        counts.subtract({arc: times for arc in zip(row, row[1:])})
    if not is_ascending(bag) or len({each[:2] for each in bag}) < len(bag):
        return False
    return all(many <= 0 for many in counts.values()) and any(many < 0 for many in counts.values())
