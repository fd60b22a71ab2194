"""Growth: a net whose links grow longer at rates of their own, and how long its tables stay the same."""

from quietturns.nets import Net
from quietturns.tables import distances_to, next_tables

# A way goes over at most 7 links, each with a rate of at most 9. So in one of so many parts of the time from an integer
# to the next one no way can catch up with another one that was shorter.
PARTS = 1000


def grown(net, rates, t, parts=1):
    """The net at the time t / parts, with lengths so many times as great as they are then."""
    more = {(a, b): rate * t for a, b, rate in rates}
    return Net(net.routers, tuple([longer(link, parts, more.get(link[:2], 0)) for link in net.links]))


def longer(link, times, more):
    """The link with both lengths so many times as great, and greater by so much then."""
    a, b, there, back = link
    return (a, b, there * times + more, back * times + more)


def spans_of(net, rates, goal):
    """The list of the pairs (first, last), from 0 to goal, of the greatest stretches with the same tables."""
    spans, first = [], 0
    while first <= goal:
        beyond = change_after(net, rates, first, goal)
        spans.append((first, beyond - 1))
        first = beyond
    return spans


def change_after(net, rates, t, goal):
    """The least integer above t at which the tables are others than at t, goal + 1 if there is none up to goal."""
    soon = grown(net, rates, t * PARTS + 1, PARTS)
    if next_tables(soon) != next_tables(grown(net, rates, t)):
        return t + 1
    # From here to the first of these integers every distance grows by the same from each integer to the next.
    waits = [wait for d in net.routers for wait in waits_for(soon, d)]
    return min([goal + 1] + [t + wait for wait in waits])


def waits_for(soon, d):
    """In how many integers each link that begins no shortest way to d begins one, if it ever does as things go."""
    far, waits = distances_to(soon, d), []
    for a, b, there, back in soon.links:
        if a in far:
            waits = waits + wait_for(there + far[b] - far[a]) + wait_for(back + far[a] - far[b])
    return waits


def wait_for(behind):
    """A list: in how many integers a way that is longer by so many parts is as short as the shortest, if it ever is."""
    # These parts are those by which it was longer at the integer itself, less what it has gained in one part of time.
    longer_by = (behind + PARTS // 2) // PARTS
    gained = longer_by * PARTS - behind
    return [(longer_by + gained - 1) // gained] if gained > 0 else []
