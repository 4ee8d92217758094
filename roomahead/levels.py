"""Levels: lanes had several times, so that letters of some aims never wait for those of others."""

from itertools import combinations

from roomahead.bounds import MAX_LANES
from roomahead.errors import TooMany, Unfit
from roomahead.lots import free


def only(net, group):
    """Return the net whose tables for the aims of the group are those of net, and empty for all others."""
    houses, lanes, tables = net
    return (houses, lanes, tuple([_kept(table, group) for table in tables]))


def _kept(table, group):
    return tuple([entry if aim in group else () for aim, entry in enumerate(table)])


def bad_groups(net):
    """Return all bad groups of which no lesser one is bad, shorter ones first, those of one length ascending."""
    found = []
    for many in range(1, net[0] + 1):
        for group in combinations(range(net[0]), many):
            # A group with a bad one within it is bad, too, but has a lesser one that is.
            if not _has_one_within(group, found) and not free(only(net, group)):
                found.append(group)
    return tuple(found)


def _has_one_within(group, others):
    """Return whether one of the other groups lies within the group."""
    return any([all([aim in group for aim in other]) for other in others])


def fewest_levels(net):
    """Return the least of the tuples that tell the fewest levels of which the aims of none are a bad group.

    Unfit() is raised if some group of one aim is bad.
    """
    bad = bad_groups(net)
    if any([len(group) == 1 for group in bad]):
        raise Unfit()
    fit = [told for told in _tellings(net[0]) if not any([_is_in_one_level(told, group) for group in bad])]
    _, least = min([(max(told), told) for told in fit])
    return least


def _tellings(houses):
    """Return the list of the tuples that tell levels in the order of their least aims.

    They are enough: any other one is no less than the one of these that parts the aims likewise.
    """
    found = [(0,)]
    for _ in range(1, houses):
        found = [told + (level,) for told in found for level in range(max(told) + 2)]
    return found


def _is_in_one_level(told, group):
    return len({told[aim] for aim in group}) == 1


def levelled(net, told):
    """Return the net with its lanes once for each level; raise TooMany(MAX_LANES) if these are more than that."""
    houses, lanes, tables = net
    levels = max(told) + 1
    if levels * len(lanes) > MAX_LANES:
        raise TooMany(MAX_LANES)
    return (houses, lanes * levels, tuple([_table_by_levels(table, told, len(lanes)) for table in tables]))


def _table_by_levels(table, told, many):
    """Return the table with the lanes, so many in each level, of the level of each aim."""
    return tuple([tuple([level * many + lane for lane in entry]) for entry, level in zip(table, told)])
