"""Closed lots: lanes whose letters can wait for one another for ever."""

from roomahead.kinds import is_integer, is_tuple_of, within
from roomahead.striking import left_over, open_aims, struck


def free(net):
    """Return whether the net has no lot."""
    return 0 not in waves(net)


def waves(net):
    """Return the tuple with for each lane the wave in which it is struck out, 0 if it never is."""
    return tuple(struck(open_aims(net)))


def lot_error(net, value):
    """Return None if value is a lot of net, otherwise the first thing that is wrong with it."""
    if not _are_rising_pairs(value):
        return "form"
    asked = open_aims(net)
    for place, (lane, aim) in enumerate(value):
        if not within(lane, 0, len(asked) - 1) or aim not in asked[lane]:
            return ("pair", place)
    lanes = [lane for lane, aim in value]
    for place, (lane, aim) in enumerate(value):
        if not all([other in lanes for other in asked[lane][aim]]):
            return ("open", place)
    return None


def _are_rising_pairs(value):
    """Return whether value is a tuple of pairs of integers, at least one, whose first items rise."""
    if not isinstance(value, tuple) or len(value) == 0:
        return False
    if not all([is_tuple_of(pair, 2) and is_integer(pair[0]) and is_integer(pair[1]) for pair in value]):
        return False
    return all([one[0] < other[0] for one, other in zip(value, value[1:])])


def greatest_lot(net):
    """Return the lot of all lanes that are never struck out, () if the net is free."""
    return left_over(open_aims(net))


def joined(one, other):
    """Return the lot of all lanes of both, with the lesser aim where a lane is in both."""
    told = {}
    for lane, aim in one + other:
        told[lane] = min(aim, told.get(lane, aim))
    return tuple(sorted(told.items()))


def filling(net, lot):
    """Return the deeds that fill the lanes of the lot, one behind another, from their own houses."""
    return tuple([("in", lane, aim) for lane, aim in lot for _ in range(net[1][lane][2])])
