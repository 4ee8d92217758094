"""Nets: houses, the lanes between them, and the tables that tell which lanes serve which aims."""

from roomahead.bounds import MAX_HOUSES, MAX_LANES, MAX_ROOM
from roomahead.kinds import is_tuple_of, within


def net_error(value):
    """Return None if value is a net, otherwise the first thing that is wrong with it."""
    if not is_tuple_of(value, 3):
        return "form"
    houses, lanes, tables = value
    if not within(houses, 1, MAX_HOUSES):
        return "houses"
    error = _lanes_error(houses, lanes)
    if error is not None:
        return error
    return _tables_error(houses, lanes, tables)


def _lanes_error(houses, value):
    if not isinstance(value, tuple) or len(value) > MAX_LANES:
        return "lanes"
    for k, lane in enumerate(value):
        if not _is_lane(houses, lane):
            return ("lane", k)
    return None


def _is_lane(houses, value):
    if not is_tuple_of(value, 3):
        return False
    start, end, room = value
    if not within(start, 0, houses - 1) or not within(end, 0, houses - 1):
        return False
    return start != end and within(room, 1, MAX_ROOM)


def _tables_error(houses, lanes, value):
    if not is_tuple_of(value, houses):
        return "tables"
    # All houses are looked at ahead of all entries: an unfit house is told first, also behind an unfit entry.
    for u, table in enumerate(value):
        if not is_tuple_of(table, houses):
            return ("house", u)
    for u, table in enumerate(value):
        for d, entry in enumerate(table):
            if not _is_entry(lanes, u, d, entry):
                return ("table", u, d)
    return None


def _is_entry(lanes, house, aim, value):
    if not isinstance(value, tuple):
        return False
    if aim == house:
        return len(value) == 0
    least = 0
    for lane in value:
        if not within(lane, least, len(lanes) - 1) or lanes[lane][0] != house:
            return False
        least = lane + 1
    return True


def serves(net, lane, aim):
    """Return whether the lane serves the aim."""
    _, lanes, tables = net
    start = lanes[lane][0]
    return lane in tables[start][aim]


def aims(net, lane):
    """Return the ascending tuple of the aims that the lane serves."""
    return tuple([aim for aim in range(net[0]) if serves(net, lane, aim)])


def ahead(net, lane, aim):
    """Return the lanes into which a letter with this aim may go on from the lane."""
    _, lanes, tables = net
    end = lanes[lane][1]
    return tables[end][aim]


def renamed(net, order):
    """Return the net whose house i is the house order[i] of net."""
    houses, lanes, tables = net
    place = _places(order)
    told_lanes = tuple([(place[start], place[end], room) for start, end, room in lanes])
    told_tables = tuple([tuple([tables[house][aim] for aim in order]) for house in order])
    return (houses, told_lanes, told_tables)


def relaned(net, order):
    """Return the net whose lane k is the lane order[k] of net."""
    houses, lanes, tables = net
    place = _places(order)
    told_lanes = tuple([lanes[lane] for lane in order])
    told_tables = tuple([tuple([_placed(entry, place) for entry in table]) for table in tables])
    return (houses, told_lanes, told_tables)


def _places(order):
    """Return the dict that tells at which place each item of order stands."""
    return {item: place for place, item in enumerate(order)}


def _placed(entry, place):
    return tuple(sorted([place[lane] for lane in entry]))
