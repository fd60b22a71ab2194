"""A yard of the tests' own: it keeps the run alone, and plays it from the beginning for every question."""

import re

from quietturns.nets import Net
from search import tables_of

NAME, LENGTH, PACKET = 'name', 'length', 'packet'
FORMS = {'set': (NAME, NAME, LENGTH, LENGTH), 'out': (NAME, NAME), 'learn': (NAME,), 'send': (NAME, NAME),
         'hop': (PACKET, NAME), 'drop': (PACKET,)}


def is_part(value, kind):
    """Whether value is such a part of an event, told by its class."""
    if kind == NAME:
        return value.__class__ is str and re.fullmatch('[a-z]{1,8}', value) is not None
    return value.__class__ is int and value >= (1 if kind == LENGTH else 0)


def is_event(value):
    """Whether value is an event by its form, with any names as routers."""
    if value.__class__ is not tuple or not value or value[0].__class__ is not str or value[0] not in FORMS:
        return False
    kinds = FORMS[value[0]]
    if len(value) != len(kinds) + 1 or not all(map(is_part, value[1:], kinds)):
        return False
    return value[0] not in ('set', 'out') or value[1] < value[2]


def is_event_of(net, value):
    """Whether value is an event of this net's routers."""
    return is_event(value) and all(part in net.routers for part in value[1:] if part.__class__ is str)


class PlainYard:

    def __init__(self, net, strict=False):
        self.first, self.strict, self.run = net, strict, []

    def played(self):
        """The nets, the index of the net that each router knows, and for each packet (route, d, lost)."""
        nets, known, packets = [self.first], dict.fromkeys(self.first.routers, 0), []
        for word, *parts in self.run:
            if word in ('set', 'out'):
                links = [link for link in nets[-1].links if link[:2] != tuple(parts[:2])]
                nets.append(Net(self.first.routers, tuple(sorted(links + [tuple(parts)] * (word == 'set')))))
            elif word == 'learn':
                known[parts[0]] += 1
            elif word == 'send':
                packets.append(((parts[0],), parts[1], False))
            else:
                route, d, _ = packets[parts[0]]
                packets[parts[0]] = (route + tuple(parts[1:]), d, word == 'drop')
        return nets, known, packets

    def now(self):
        """All learn, send, hop and drop events that can happen now."""
        nets, known, packets = self.played()
        found = [('learn', router) for router in known if known[router] < len(nets) - 1]
        nexts = {key: row for router in known for key,
                 row in tables_of(nets[known[router]]).items() if key[0] == router}
        found += [('send', router, d) for router, d in nexts if nexts[router, d]]
        for packet, (route, d, lost) in enumerate(packets):
            if not lost and route[-1] != d:
                found += [('hop', packet, n) for n in nexts[route[-1], d]] or [('drop', packet)]
        return tuple(sorted(found))

    def changes(self):
        """All links that can be set, and all that can be taken out."""
        nets, _, _ = self.played()
        return [link[:2] for link in self.first.links], [link[:2] for link in nets[-1].links]

    def can(self, event):
        """Whether an event of the net's routers can happen now."""
        if event[0] in ('set', 'out'):
            return event[1:3] in self.changes()[event[0] == 'out']
        return event in self.now()

    def ring(self, event):
        """The ring that a hop would close, None without one."""
        if event[0] != 'hop':
            return None
        route = self.played()[2][event[1]][0]
        return route[route.index(event[2]):] if event[2] in route else None

    def told(self):
        nets, known, packets = self.played()
        return set(known.values()) == {len(nets) - 1} and all(lost or route[-1] == d for route, d, lost in packets)

    def journal(self):
        rows = ['routers ' + ' '.join(self.first.routers)]
        rows += ['link ' + ' '.join(map(str, link)) for link in self.first.links]
        rows += ['strict' if self.strict else 'run']
        return '\n'.join(rows + [' '.join(map(str, event)) for event in self.run])

    def seen(self):
        """All that can be seen of the yard, as seen below shows it."""
        nets, known, packets = self.played()
        routes = [route for route, _, _ in packets]
        return {
            'now': self.now(), 'events': tuple(self.run), 'net': nets[-1], 'many': len(packets), 'told': self.told(),
            'known': [nets[known[router]] for router in self.first.routers], 'routes': routes,
            'under way': [packet for packet, (route, d, lost) in enumerate(packets) if not lost and route[-1] != d],
            'turned': tuple(sorted({(packet, router) for packet, route in enumerate(routes) for router in route
                                    if route.count(router) > 1})),
            'lost': tuple(packet for packet, (_, _, lost) in enumerate(packets) if lost),
            'arrived': tuple(packet for packet, (route, d, _) in enumerate(packets) if route[-1] == d),
            'journal': self.journal(),
        }


def seen(yard):
    """All that can be seen of a yard of the package."""
    return {
        'now': yard.now, 'events': yard.events, 'net': yard.net, 'many': yard.many, 'told': yard.told(),
        'known': [yard.known(router) for router in yard.net.routers], 'routes': [yard[at] for at in range(yard.many)],
        'under way': [at for at in range(yard.many) if at in yard],
        'turned': yard.turned, 'lost': yard.lost, 'arrived': yard.arrived, 'journal': yard.journal,
    }


def drawn_event(source, plain, greatest=6):
    """An event that can happen now, if any can: most often a hop, now and then a change."""
    now, (links, there) = plain.now(), plain.changes()
    words = ['hop'] * 6 + ['learn'] * 3 + ['send'] * 3 + ['drop', 'set', 'out']
    word = source.choice(words)
    if word == 'set' and links:
        return ('set', *source.choice(links), source.randint(1, greatest), source.randint(1, greatest))
    if word == 'out' and there:
        return ('out', *source.choice(there))
    return source.choice([event for event in now if event[0] == word] or now or [('drop', 0)])


def drawn_run(source, net, many, strict=False):
    """A yard of the tests' own with a drawn run."""
    plain = PlainYard(net, strict)
    for _ in range(many):
        event = drawn_event(source, plain)
        if plain.can(event) and not (strict and plain.ring(event)):
            plain.run.append(event)
    return plain
