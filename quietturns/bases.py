"""Bases: the simplex method, in integers, for the question whether rows of routers can be shortest ways.

An arc is a pair of a router and a neighbour. A swap is a pair (row, other), both with the same ends: the other is gone
over in place of the row. Asked are times of swaps such that no arc is gone over more often than before, and together
as many arcs less often as can be. If there can be ever more of these, the swaps that grow with them are a bag. If not,
there are lengths of the arcs for which no swap leads over a shorter row.
"""


class Basis:
    """As many parts as there are arcs, each of them a swap, or None for an arc that is gone over less often.

    Rows are the inverse of the matrix that has a column of each part, with all its numbers times whole.
    """

    def __init__(self, arcs):
        self.arcs = arcs
        self.parts = [None] * len(arcs)
        self.rows = [[1 if arc == other else 0 for other in arcs] for arc in arcs]
        self.whole = 1

    def lengths(self):
        """Lengths of the arcs, times whole: 1 for those that are parts, and such that both rows of a swap are equal."""
        found = [self.whole] * len(self.arcs)
        for swap, row in zip(self.parts, self.rows):
            if swap is not None:
                fewer = len(swap[0]) - len(swap[1])
                found = [length + fewer * number for length, number in zip(found, row)]
        return found

    def column_of_arc(self, at):
        """What the parts lose, times whole, as the arc of this number is gone over less often by 1."""
        return [row[at] for row in self.rows]

    def column_of_swap(self, swap):
        """What the parts lose, times whole, as this swap is made once."""
        left, taken = [list(zip(row, row[1:])) for row in swap]
        more = [(1 if arc in taken else 0) - (1 if arc in left else 0) for arc in self.arcs]
        return [sum([times * number for times, number in zip(more, row)]) for row in self.rows]

    def first_lost(self, column):
        """The number of the part that is the first one lost to what has this column, None if none ever is."""
        best = None
        for at, loss in enumerate(column):
            if loss > 0 and (best is None or self._is_lost_before(column, at, best)):
                best = at
        return best

    def _is_lost_before(self, column, at, best):
        # There is nothing of any part, so any could be the first. Told apart by their rows, no basis comes back.
        return [number * column[best] for number in self.rows[at]] < [number * column[at] for number in self.rows[best]]

    def replace_part(self, at, part, column):
        """Puts this part with its column in place of the one of this number."""
        pivot, lost = column[at], self.rows[at]
        # This division leaves nothing over, since all the numbers are determinants of integers.
        self.rows = [[(number * pivot - loss * other) // self.whole for number, other in zip(row, lost)]
                     for row, loss in zip(self.rows, column)]
        self.rows[at] = lost
        self.whole = pivot
        self.parts[at] = part

    def growing(self, part, column):
        """A dict: the times of the swaps that grow with this part, to which no part is ever lost."""
        found = [(part, self.whole)] + [(each, -loss) for each, loss in zip(self.parts, column)]
        return {swap: times for swap, times in found if swap is not None and times > 0}
