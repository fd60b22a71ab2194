"""Rings, ranks and rows of routers, by a dict of the routers to which each of them may send on."""

LEAST_ROW = 2


def ring_of(onward):
    """Any ring, as a tuple of routers, each of which may send on to the following one; None if there is none."""
    ranks = ranks_of(onward)
    left = [router for router in onward if router not in ranks]
    if not left:
        return None
    row = [left[0]]
    while True:
        # A router gets no rank only because one to which it may send on has none, so the row never ends.
        following = [n for n in onward[row[-1]] if n not in ranks][0]
        if following in row:
            return tuple(row[row.index(following):])
        row.append(following)


def ranks_of(onward):
    """A dict of ranks, each above those of all routers to which the router may send on.

    Routers from which a ring can be reached are not in it.
    """
    ranks, many = {}, None
    # Until a turn ranks no further router.
    while many != len(ranks):
        many = len(ranks)
        for router in onward:
            below = [ranks.get(n) for n in onward[router]]
            if None not in below:
                ranks[router] = max(below, default=-1) + 1
    return ranks


def links_round(ring):
    """The pairs of each router of a ring and the following one, for the last one the first one."""
    return list(zip(ring, ring[1:] + ring[:1]))


def is_row(value, routers):
    """Whether this is a tuple of two or more of these routers, all different."""
    if not isinstance(value, tuple) or not LEAST_ROW <= len(value) <= len(routers):
        return False
    return all([router in routers for router in value]) and len(set(value)) == len(value)


def row_between(onward, start, end):
    """Any row of the fewest routers, from start to end, each of which may send on to the following one, or None."""
    rows = {start: (start,)}
    while end not in rows:
        further = {n: rows[router] + (n,) for router in rows for n in onward[router] if n not in rows}
        if not further:
            return None
        rows.update(further)
    return rows[end]
