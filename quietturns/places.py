"""Places: nets one behind the other, told by their numbers, and which steps from one to a later one are fine."""

from quietturns.judging import joined
from quietturns.loads import WHOLE, moments_that_count, parts_of, tables_at
from quietturns.rings import ring_of
from quietturns.tables import next_tables


class Places:
    """A step is fine if no packet can turn, and no load comes to be above its cap."""

    def __init__(self, nets, demands, caps):
        self._tables = [next_tables(net) for net in nets]
        # Without caps no load matters.
        self._demands = demands if caps else ()
        self._caps = caps
        self._firsts = {d: first_alike([tables[d] for tables in self._tables]) for d in nets[0].routers}
        self._goals = sorted(set([d for router, d, amount in self._demands]))
        # What has been found out so far, by the tables that it depends on.
        self._rings = {}
        self._excesses = {}

    def size(self):
        """How many places there are."""
        return len(self._tables)

    def is_fine(self, low, high):
        """Whether the step from one place to another one, or to one with the same tables, is fine."""
        for d in self._firsts:
            if self._has_ring(d, low, high):
                return False
        return not self._has_excess(low, high)

    def are_fine(self, row):
        """Whether each step from one of these places to the one after it is fine."""
        return all([self.is_fine(low, high) for low, high in zip(row, row[1:])])

    def _has_ring(self, d, low, high):
        key = (d, self._firsts[d][low], self._firsts[d][high])
        if key not in self._rings:
            onward = joined(self._tables[low][d], self._tables[high][d])
            self._rings[key] = ring_of(onward) is not None
        return self._rings[key]

    def _has_excess(self, low, high):
        key = tuple([(self._firsts[d][low], self._firsts[d][high]) for d in self._goals])
        if key not in self._excesses:
            self._excesses[key] = exceeds(self._tables[low], self._tables[high], self._demands, self._caps)
        return self._excesses[key]


def first_alike(tables):
    """For each table the number of the first of the equal ones among which it stands."""
    found = []
    for at, table in enumerate(tables):
        found.append(found[-1] if at and table == tables[at - 1] else at)
    return found


def exceeds(olds, news, demands, caps):
    """Whether at some moment of a step that does not turn a load is above its cap."""
    for moment in moments_that_count(olds, news, demands):
        parts = parts_of(tables_at(olds, news, moment), demands)
        if any([parts.get((a, b), 0) > cap * WHOLE for a, b, cap in caps]):
            return True
    return False
