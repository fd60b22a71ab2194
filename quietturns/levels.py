"""Levels: in how few fine steps each place can be reached from the first one, and the way there."""

from quietturns.values import is_integer_from, is_tuple_of


def fewest_steps(places):
    """For each place a pair: the fewest fine steps from the first one, at least one, and the place ahead of the last.

    Both are None if no fine steps lead there.
    """
    found = [(None, None)] * places.size()
    # The first place is a class of integers, in which a step from 0 may end, too.
    if places.is_fine(0, 0):
        found[0] = (1, 0)
    level, lows = 0, [0]
    while lows:
        level, highs = level + 1, []
        for low in lows:
            for high in range(low + 1, places.size()):
                if found[high][0] is None and places.is_fine(low, high):
                    found[high] = (level, low)
                    highs.append(high)
        lows = highs
    return found


def between(found):
    """The places at which the fewest steps to the last place, which they reach, stop on their way."""
    way = [found[-1][1]]
    while way[0] > 0:
        way = [found[way[0]][1]] + way
    return way[1:]


def are_levels(value, places, alone):
    """Whether these are right levels of the places; alone tells whether 0 is the only integer at the first one."""
    if not is_tuple_of(value, places.size()) or not all([is_level(level) for level in value]):
        return False
    for high, level in enumerate(value):
        if level != 1 and not (alone and high == 0) and places.is_fine(0, high):
            return False
    # A step from another integer at the first place is as one from 0.
    for low in range(1, places.size()):
        for high in range(low + 1, places.size()):
            if is_above(value[high], value[low]) and places.is_fine(low, high):
                return False
    return True


def is_level(value):
    """Whether this is None or an integer from 1."""
    return value is None or is_integer_from(value, 1)


def is_above(level, before):
    """Whether no fine step can lead to a place with this level from one with the level before."""
    return before is not None and (level is None or level > before + 1)
