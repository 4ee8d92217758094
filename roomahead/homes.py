"""Ways home: rings, dead ends, and how long ways can become."""

from roomahead.errors import Unfit
from roomahead.lots import free
from roomahead.nets import ahead
from roomahead.striking import open_aims


def ring(net, aim):
    """Return a ring of the aim that begins with the least of its lanes, None if there is none."""
    # The first lane that is in any ring is the least one of that: no lesser lane is in a ring at all.
    for lane in range(len(net[1])):
        found = _ring_from(net, aim, lane)
        if found is not None:
            return found
    return None


def _ring_from(net, aim, first):
    """Return a ring of the aim that begins with the lane first, None if there is none."""
    rows = [(first,)]
    met = set()
    while len(rows) > 0:
        row = rows.pop(0)
        for other in ahead(net, row[-1], aim):
            if other == first:
                return row
            if other not in met:
                met.add(other)
                rows.append(row + (other,))
    return None


def dead_ends(net):
    """Return the ascending tuple of the pairs of a lane and an aim open in it for which no lane is ahead."""
    return tuple([(lane, aim) for lane, told in enumerate(open_aims(net)) for aim in told if told[aim] == ()])


def settles(net):
    """Return whether the net is free, and no aim has a ring."""
    return free(net) and all([ring(net, aim) is None for aim in range(net[0])])


def longest(net, aim):
    """Return the tuple with for each house how many lanes the longest way of the aim from there has.

    None stands for a house whose table for the aim is empty; Unfit() is raised if the net does not settle.
    """
    if not settles(net):
        raise Unfit()
    return tuple([_longest_from(net, aim, house) for house in range(net[0])])


def _longest_from(net, aim, house):
    # The net settles: no way goes round, and none ends elsewhere than at the aim.
    if house == aim:
        return 0
    behind = [_longest_from(net, aim, net[1][lane][1]) for lane in net[2][house][aim]]
    if len(behind) == 0:
        return None
    return 1 + max(behind)


def measure(net, stand):
    """Return the greatest number of moves that can be left in stand; raise Unfit() if the net does not settle."""
    told = [longest(net, aim) for aim in range(net[0])]
    return sum([1 + told[aim][net[1][lane][1]] for lane, letters in enumerate(stand) for aim in letters])


def wayless(net):
    """Return the ascending tuple of the pairs of a house and another aim to which no way leads from it."""
    houses = range(net[0])
    led = [_houses_led(net, aim) for aim in houses]
    return tuple([(house, aim) for house in houses for aim in houses if not led[aim][house]])


def _houses_led(net, aim):
    """Return the list with for each house whether a way of the aim leads from it."""
    _, lanes, tables = net
    led = [house == aim for house in range(net[0])]
    # Each time round all houses are found from which a way is longer by one lane, at least.
    for _ in range(net[0]):
        for house, table in enumerate(tables):
            led[house] = led[house] or any([led[lanes[lane][1]] for lane in table[aim]])
    return led
