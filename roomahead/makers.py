"""Nets that are made: grids and circles of houses, and tables for them."""

from roomahead.errors import Unfit


def grid(wide, high, room):
    """Return the pair (houses, lanes) of houses that stand in rows, with lanes both ways between neighbours."""
    houses = wide * high
    lanes = []
    for house in range(houses):
        if house % wide < wide - 1:
            lanes.extend(_there_and_back(house, house + 1, room))
        if house + wide < houses:
            lanes.extend(_there_and_back(house, house + wide, room))
    return (houses, tuple(lanes))


def _there_and_back(one, other, room):
    return [(one, other, room), (other, one, room)]


def circle(houses, room):
    """Return the pair (houses, lanes) of houses in a circle: first the lanes there, then the lanes back."""
    there = _round_about(houses, room)
    back = [(end, start, room) for start, end, room in there]
    return (houses, tuple(there + back))


def _round_about(houses, room):
    """Return the list of the lanes from each house to the next one, 0 standing behind the last one."""
    return [(house, (house + 1) % houses, room) for house in range(houses)]


def _tables(houses, entry):
    """Return the tables in which, for each house and each other aim, stands what entry tells of them."""
    row = range(houses)
    return tuple([tuple([() if house == aim else entry(house, aim) for aim in row]) for house in row])


def nearest(houses, lanes):
    """Return the net in whose tables stand all lanes behind which the aim is nearer by one lane."""
    far = _all_distances(houses, lanes)
    return (houses, lanes, _tables(houses, lambda house, aim: _nearer(lanes, far, house, aim)))


def _nearer(lanes, far, house, aim):
    found = []
    for lane in _starting(lanes, house):
        left = far[lanes[lane][1]][aim]
        if left is not None and left + 1 == far[house][aim]:
            found.append(lane)
    return tuple(found)


def _starting(lanes, house):
    """Return the list of the lanes that start at the house."""
    return [lane for lane, (start, end, room) in enumerate(lanes) if start == house]


def _all_distances(houses, lanes):
    """Return the list with for each house the list of the distances from it."""
    return [_distances(houses, lanes, house) for house in range(houses)]


def _distances(houses, lanes, house):
    """Return the list with for each house its distance from this one, None if one does not come there."""
    far = [None] * houses
    far[house] = 0
    for step in range(houses):
        for start, end, room in lanes:
            if far[start] == step and far[end] is None:
                far[end] = step + 1
    return far


def up_down(houses, lanes, root):
    """Return the net in which letters go down where downs alone lead to their aim, and up elsewhere.

    Unfit() is raised if some lane has no lane back, or some house no distance from the root.
    """
    level = _distances(houses, lanes, root)
    ends = [(start, end) for start, end, room in lanes]
    if None in level or not all([(end, start) in ends for start, end in ends]):
        raise Unfit()
    downs = [lane for lane, (start, end) in enumerate(ends) if (level[end], end) > (level[start], start)]
    far = _all_distances(houses, [lanes[lane] for lane in downs])
    return (houses, lanes, _tables(houses, lambda house, aim: _down_or_up(lanes, downs, far, house, aim)))


def _down_or_up(lanes, downs, far, house, aim):
    """Return the down lanes from the house behind which downs alone lead to the aim; all up lanes if there are none.

    far tells the distances by down lanes.
    """
    starting = _starting(lanes, house)
    leading = [lane for lane in starting if lane in downs and far[lanes[lane][1]][aim] is not None]
    if len(leading) > 0:
        return tuple(leading)
    return tuple([lane for lane in starting if lane not in downs])


def one_way(houses, room):
    """Return the net of two lanes from each house to the next one, the second ones for the aims that are less."""
    lanes = _round_about(houses, room)
    tables = _tables(houses, lambda house, aim: (house,) if aim > house else (houses + house,))
    return (houses, tuple(lanes + lanes), tables)
