"""Rounds: which routers may be told of a new net together, so that no packet turns or is lost.

Inside, a moment is a mask: a number whose bits, from the lowest one, tell which of the routers have learnt.
"""

from quietturns.moments import is_moment, is_sound, need_same_routers
from quietturns.tables import next_tables
from quietturns.values import is_rising, is_tuple_of


def rounds(old, new):
    """("rounds", rounds) with the fewest sound rounds, or ("none", moments) to which sound rounds lead."""
    need_same_routers(old, new)
    routers, sound = old.routers, sound_masks(old, new)
    before = masks_before(sound)
    if last_mask(sound) in before:
        path = path_to(before, last_mask(sound))
        told = [moment_of(routers, high ^ low) for low, high in zip(path, path[1:])]
        return ("rounds", tuple(told))
    return ("none", tuple(sorted([moment_of(routers, mask) for mask in before])))


def shows_rounds(old, new, value):
    """Whether this is ("rounds", rounds) with the fewest ones, or ("none", moments) that sound rounds do not leave."""
    need_same_routers(old, new)
    if not is_tuple_of(value, 2) or not isinstance(value[1], tuple):
        return False
    if not all([is_moment(each, old.routers) for each in value[1]]):
        return False
    masks = [mask_of(old.routers, each) for each in value[1]]
    sound = sound_masks(old, new)
    if value[0] == "rounds":
        return lead_on(sound, masks) and len(masks) == len(path_to(masks_before(sound), last_mask(sound))) - 1
    return value[0] == "none" and is_rising(value[1]) and are_closed(sound, masks)


def moment_of(routers, mask):
    """The moment of a mask."""
    return tuple([router for at, router in enumerate(routers) if (mask >> at) & 1])


def mask_of(routers, moment):
    """The mask of a moment."""
    return sum([1 << routers.index(router) for router in moment])


def sound_masks(old, new):
    """A list: for each mask whether its moment is sound."""
    olds, news = next_tables(old), next_tables(new)
    return [is_sound(olds, news, moment_of(old.routers, mask)) for mask in range(1 << len(old.routers))]


def last_mask(sound):
    """The mask of all routers."""
    return len(sound) - 1


def masks_between(low, high):
    """All masks that have every router of low, and none that high has not."""
    found, bit = [low], 1
    while bit <= high:
        if bit & high and not bit & low:
            found = found + [mask | bit for mask in found]
        bit = bit << 1
    return found


def is_sound_round(sound, low, high):
    """Whether the round from low to high is sound."""
    # What a router does in a round it does at some moment of it, and others at this moment as they like.
    return all([sound[mask] for mask in masks_between(low, high)])


def masks_before(sound):
    """A dict: for each mask to which sound rounds lead the one ahead of the last of the fewest rounds; None for 0."""
    before, level = {0: None}, [0]
    while level:
        found = []
        for low in level:
            for high in masks_between(low, last_mask(sound)):
                if high not in before and is_sound_round(sound, low, high):
                    before[high] = low
                    found.append(high)
        level = found
    return before


def path_to(before, mask):
    """The masks from 0 to this one that the fewest rounds lead over."""
    path = [mask]
    while before[path[0]] is not None:
        path = [before[path[0]]] + path
    return path


def lead_on(sound, masks):
    """Whether these are the masks of sound rounds, one after the other, that tell every router once."""
    low = 0
    for mask in masks:
        if mask == 0 or mask & low or not is_sound_round(sound, low, mask | low):
            return False
        low = mask | low
    return low == last_mask(sound)


def are_closed(sound, masks):
    """Whether these have 0, do not have the last mask, and no sound round of one router leads out of them."""
    given = {mask: True for mask in masks}
    if 0 not in given or last_mask(sound) in given:
        return False
    bits = [1 << at for at in range(len(sound)) if 1 << at < len(sound)]
    reached = [mask | bit for mask in masks if sound[mask] for bit in bits]
    return all([mask in given for mask in reached if sound[mask]])
