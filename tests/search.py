"""What the promises say, looked for by trying everything: slow, plain, and without the functions to be tested.

Nothing here needs more of the program than nets; tables are found over all routers between.
"""

from functools import lru_cache
from itertools import chain, combinations, permutations

from quietturns.nets import Net


def tables_of(net):
    """All next routers, by (router, destination): the ascending tuple of them."""
    return tables_by(net.routers, net.links)


@lru_cache(maxsize=2000)
def tables_by(routers, links):
    lengths = {}
    for a, b, there, back in links:
        lengths[a, b], lengths[b, a] = there, back
    far = {**lengths, **{(a, a): 0 for a in routers}}
    for by in routers:
        for a in routers:
            for d in routers:
                if (a, by) in far and (by, d) in far:
                    over = far[a, by] + far[by, d]
                    far[a, d] = min(far.get((a, d), over), over)
    return {(a, d): tuple(n for n in routers if (a, n) in lengths and (n, d) in far and a != d
                          and far[a, d] == lengths[a, n] + far[n, d])
            for a in routers for d in routers}


def subsets(routers):
    """All ascending tuples of some of these routers, () and all of them among them."""
    return list(chain.from_iterable(combinations(routers, many) for many in range(len(routers) + 1)))


def mishaps(old, new, moment=(), told=None):
    """What can befall a packet, of 'turns' and 'lost', played move by move.

    At first the routers of the moment have learnt; those told, if None all, learn when they like.
    """
    tables = (tables_of(old), tables_of(new))
    told = old.routers if told is None else told
    found = set()
    for d in old.routers:
        waiting = [(a, frozenset([a]), frozenset(moment)) for a in old.routers if a != d]
        seen = set(waiting)
        while waiting:
            at, visited, learnt = waiting.pop()
            following = tables[at in learnt][at, d]
            if at != d and not following and len(visited) > 1:
                found.add('lost')
            if visited & set(following):
                found.add('turns')
            states = [(at, visited, learnt | {router}) for router in told]
            states += [(n, visited | {n}, learnt) for n in following if n not in visited]
            waiting += [state for state in states if state not in seen]
            seen.update(states)
    return found


def has_ring(onward):
    """Whether one can go round by a dict of the routers to which each may send on."""
    left = dict(onward)
    while left:
        ends = [router for router in left if not any(n in left for n in left[router])]
        if not ends:
            return True
        for router in ends:
            del left[router]
    return False


def can_turn(old, new, routers):
    """Whether the old and the new links towards some destination together have a ring; both are tables."""
    return any(has_ring({a: old[a, d] + new[a, d] for a in routers}) for d in routers)


# Forms, told by their classes, so that neither a list nor a bool passes.

def is_tuple(value, many=None):
    return value.__class__ is tuple and many in (None, len(value))


def are_integers(value, many=None):
    return is_tuple(value, many) and all(each.__class__ is int for each in value)


def are_routers(value, routers):
    return is_tuple(value) and all(each.__class__ is str and each in routers for each in value)


def is_ascending(values):
    return list(values) == sorted(set(values))


def is_moment(value, routers):
    return are_routers(value, routers) and is_ascending(value)


# Section 6.

def fits_judged(old, new, value, perils):
    """Whether value is one of the three forms and fits; perils is what mishaps finds."""
    if not is_tuple(value) or not value or value[0].__class__ is not str:
        return False
    tables = (tables_of(old), tables_of(new))
    if value[0] == 'quiet':
        return not perils and len(value) == 2 and is_tuple(value[1], len(old.routers)) and all(
            falls(tables, old.routers, d, row) for d, row in zip(old.routers, value[1]))
    if len(value) != 4 or not are_routers(value[1:2], old.routers):
        return False
    word, d, part, moment = value
    if not are_routers(part, old.routers) or not is_moment(moment, old.routers) or len(part) < 2:
        return False
    sent = {a: tables[a in moment][a, d] for a in old.routers}
    if word == 'turns':
        return len(set(part)) == len(part) and all(part[at] in sent[part[at - 1]] for at in range(len(part)))
    return word == 'lost' and len(part) == 2 and part[1] in sent[part[0]] and part[1] != d and not sent[part[1]]


def falls(tables, routers, d, row):
    """Whether these are ranks for d that fall along all links of both tables."""
    if not are_integers(row, len(routers)):
        return False
    ranks = dict(zip(routers, row))
    return all(ranks[n] < ranks[a] for table in tables for a in routers for n in table[a, d])


# Sections 7 and 8.

class Shifts:
    """All tables of a net at all shifts of a link from the least one up to one behind which nothing changes."""

    def __init__(self, net, a, b):
        self.net, self.a, self.b = net, a, b
        there, back = [link[2:] for link in net.links if link[:2] == (a, b)][0]
        self.least = 1 - min(there, back)
        # A way over the link that is so much longer than all links together is no shortest one, if there is another.
        self.most = sum(link[2] + link[3] for link in net.links)
        self.tables = {t: tables_of(self.net_at(t)) for t in [*range(self.least, self.most + 1), None]}
        self.turned = {}

    def net_at(self, t):
        """The net at this shift, None for the net without the link."""
        links = []
        for a, b, there, back in self.net.links:
            if (a, b) != (self.a, self.b):
                links.append((a, b, there, back))
            elif t is not None:
                links.append((a, b, there + t, back + t))
        return Net(self.net.routers, tuple(links))

    def range(self):
        """All shifts looked at that are integers."""
        return range(self.least, self.most + 1)

    def at(self, t):
        """The tables at any shift."""
        return self.tables[t if t is None else min(t, self.most)]

    def turns(self, start, goal):
        """Whether a step between both turns."""
        key = tuple(t if t is None else min(t, self.most) for t in (start, goal))
        if key not in self.turned:
            self.turned[key] = can_turn(self.at(start), self.at(goal), self.net.routers)
        return self.turned[key]

    def stands(self, router, n, d):
        """All shifts looked at at which the link from router to n stands."""
        return [t for t in self.range() if n in self.tables[t][router, d]]

    def stretch(self, d, ring):
        """The stretch of a value for a destination, None if it is no ring."""
        if not are_routers(ring, self.net.routers) or len(ring) < 2 or len(set(ring)) < len(ring) or d in ring:
            return None
        lows, highs = [], []
        for at, n in enumerate(ring):
            stands = self.stands(ring[at - 1], n, d)
            if not stands or {ring[at - 1], n} == {self.a, self.b}:
                return None
            if stands[-1] < self.most:
                lows.append(stands[-1])
            if stands[0] > self.least:
                highs.append(stands[0])
        return min(lows), max(highs)

    def rings(self):
        """All (d, ring, stretch)."""
        found = []
        for d in self.net.routers:
            others = [router for router in self.net.routers if router != d]
            for many in range(2, len(others) + 1):
                for ring in permutations(others, many):
                    stretch = self.stretch(d, ring)
                    if stretch is not None:
                        found.append((d, ring, stretch))
        return found

    def fewest(self, start, goal):
        """How many stops are needed at least, looked for one step after the other."""
        low, high = (start, goal) if goal is None or start is not None and start < goal else (goal, start)
        top = max(low, self.most) + 1 if high is None else high - 1
        reached, many = [low], 0
        while not any(not self.turns(t, high) for t in reached):
            reached = [t for t in range(low + 1, top + 1) if any(one < t and not self.turns(one, t) for one in reached)]
            many += 1
        return many

    def fits_steps(self, start, goal, value, fewest):
        """Whether value is a right triple of steps, of which there are so few."""
        if not is_tuple(value, 3) or value[0].__class__ is not str or value[0] != 'steps':
            return False
        stops, demands = value[1:]
        if not are_integers(stops, fewest) or not is_tuple(demands, fewest):
            return False
        low, high = (start, goal) if goal is None or start is not None and start < goal else (goal, start)
        row = [start, *stops, goal]
        if any(not low < t or high is not None and not t < high for t in stops):
            return False
        if list(stops) != sorted(set(stops), reverse=start != low):
            return False
        if any(self.turns(*pair) for pair in zip(row, row[1:])):
            return False
        return self.fit_demands(low, high, demands)

    def fit_demands(self, low, high, demands):
        """Whether these triples are rings with their stretches, which share no integer strictly within."""
        for value in demands:
            if not is_tuple(value, 3) or not are_routers(value[:1], self.net.routers) or not are_integers(value[2], 2):
                return False
            if value[2] != self.stretch(value[0], value[1]) or value[2][0] < low:
                return False
            if high is not None and value[2][1] > high:
                return False
        spans = [value[2] for value in demands]
        within = [set(range(low + 1, high)) for low, high in spans]
        return is_ascending(spans) and not any(one & other for one, other in combinations(within, 2))


# Section 9.

class Rounds:
    """All moments of two nets, and which rounds are sound, played move by move."""

    def __init__(self, old, new):
        self.old, self.new = old, new
        self.routers = old.routers
        self.known = {}

    def is_sound(self, moment, told=()):
        """Whether the round is after this moment; without one, whether the moment is."""
        if (moment, told) not in self.known:
            self.known[moment, told] = not mishaps(self.old, self.new, moment, told)
        return self.known[moment, told]

    def after(self, moment):
        """All moments to which a sound round leads."""
        told = [each for each in subsets(self.routers) if each and not set(each) & set(moment)]
        return [tuple(sorted(moment + each)) for each in told if self.is_sound(moment, each)]

    def fewest(self):
        """How few sound rounds tell every router, None if none do, and all moments to which sound rounds lead."""
        levels, reached = [[()]], {()}
        while levels[-1]:
            level = sorted({other for moment in levels[-1] for other in self.after(moment)} - reached)
            reached.update(level)
            levels.append(level)
        many = [at for at, level in enumerate(levels) if self.routers in level]
        return (many[0] if many else None), tuple(sorted(reached))

    def fits_rounds(self, value, fewest):
        """Whether value is a right pair."""
        if not is_tuple(value, 2) or value[0].__class__ is not str or not is_tuple(value[1]):
            return False
        if not all(is_moment(each, self.routers) for each in value[1]):
            return False
        if value[0] == 'rounds':
            return len(value[1]) == fewest and self.leads_on(value[1])
        return value[0] == 'none' and is_ascending(value[1]) and self.is_closed(value[1])

    def leads_on(self, rows):
        """Whether these are sound rounds that tell every router once."""
        moment = ()
        for row in rows:
            if not row or set(row) & set(moment) or not self.is_sound(moment, row):
                return False
            moment = tuple(sorted(moment + row))
        return moment == self.routers

    def is_closed(self, moments):
        """Whether these have (), not all routers, and with each sound one every sound one that has one router more."""
        if () not in moments or self.routers in moments:
            return False
        return all(other in moments for moment in moments if self.is_sound(moment)
                   for other in [tuple(sorted({*moment, router})) for router in self.routers] if self.is_sound(other))
