"""Lanes that fall: nets without them, and lanes whose fall spoils a free net."""

from roomahead.errors import Unfit
from roomahead.lots import free


def without(net, gone):
    """Return the net in which no table has one of the lanes gone; the lanes keep their numbers."""
    houses, lanes, tables = net
    return (houses, lanes, tuple([tuple([_kept(entry, gone) for entry in table]) for table in tables]))


def _kept(entry, gone):
    return tuple([lane for lane in entry if lane not in gone])


def risky(net):
    """Return the ascending tuple of the lanes without each of which no further table is empty, yet the net not free.

    Unfit() is raised if it is not free with all of them.
    """
    if not free(net):
        raise Unfit()
    return tuple([lane for lane in range(len(net[1])) if _is_risky(net, lane)])


def _is_risky(net, lane):
    left = without(net, (lane,))
    return _empty_tables(left) == _empty_tables(net) and not free(left)


def _empty_tables(net):
    """Return how many tables are empty."""
    return len([entry for table in net[2] for entry in table if entry == ()])
