"""Choice: lanes that tables could have besides, and what that does to a free net, or to one that is not."""

from itertools import combinations

from roomahead.bounds import MAX_CHOICES
from roomahead.errors import TooMany, Unfit
from roomahead.kinds import is_integer, is_tuple_of, within
from roomahead.lots import free


def choices_left(net):
    """Return the ascending tuple of all choices that are left."""
    houses = range(net[0])
    lanes = range(len(net[1]))
    choices = [(house, aim, lane) for house in houses for aim in houses for lane in lanes]
    return tuple([choice for choice in choices if _is_choice(net, choice) and not _is_taken(net, choice)])


def _is_choice(net, value):
    """Return whether value is a choice of net."""
    if not is_tuple_of(value, 3):
        return False
    house, aim, lane = value
    if not is_integer(house) or not within(aim, 0, net[0] - 1) or not within(lane, 0, len(net[1]) - 1):
        return False
    return aim != house and net[1][lane][0] == house


def _is_taken(net, choice):
    house, aim, lane = choice
    return lane in net[2][house][aim]


def with_choice(net, choice):
    """Return the net whose tables have this choice, too; raise Unfit() if it is none that is left."""
    if not _is_choice(net, choice) or _is_taken(net, choice):
        raise Unfit()
    house, aim, lane = choice
    return _with_entry(net, house, aim, tuple(sorted(net[2][house][aim] + (lane,))))


def without_choice(net, choice):
    """Return the net whose tables lack this choice; raise Unfit() if it is none that is taken."""
    if not _is_choice(net, choice) or not _is_taken(net, choice):
        raise Unfit()
    house, aim, lane = choice
    return _with_entry(net, house, aim, tuple([other for other in net[2][house][aim] if other != lane]))


def _with_entry(net, house, aim, entry):
    """Return the net with this entry as the table of the house for the aim."""
    houses, lanes, tables = net
    table = tables[house][:aim] + (entry,) + tables[house][aim + 1:]
    return (houses, lanes, tables[:house] + (table,) + tables[house + 1:])


def addable(net):
    """Return the ascending tuple of the choices left with each of which, alone, the net is free.

    Unfit() is raised if it is not free.
    """
    if not free(net):
        raise Unfit()
    return tuple([choice for choice in choices_left(net) if free(with_choice(net, choice))])


def widest(net):
    """Return the net behind goings through all choices left, each taken with which it is free, till none is taken.

    Unfit() is raised if it is not free.
    """
    if not free(net):
        raise Unfit()
    before = None
    while net != before:
        before = net
        net = _behind_a_going(net)
    return net


def _behind_a_going(net):
    """Return the free net behind one going through its choices left, each taken if the net of then is free with it."""
    wide = net
    for choice in choices_left(net):
        wider = with_choice(wide, choice)
        if free(wider):
            wide = wider
    return wide


def mending(net):
    """Return the fewest choices left, of these the least ones, with which the net is free; None if two don't do.

    TooMany(MAX_CHOICES) is raised if the net is not free, and more than MAX_CHOICES choices are left.
    """
    if free(net):
        return ()
    left = list(choices_left(net))
    if len(left) > MAX_CHOICES:
        raise TooMany(MAX_CHOICES)
    ones = [(choice,) for choice in left]
    twos = list(combinations(left, 2))
    for added in ones + twos:
        if free(_with_all(net, added)):
            return added
    return None


def _with_all(net, added):
    """Return the net with all of these choices."""
    for choice in added:
        net = with_choice(net, choice)
    return net
