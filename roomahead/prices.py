"""What lots cost: how few letters can come to be stuck."""

from heapq import heappop, heappush

from roomahead.lots import filling, greatest_lot
from roomahead.striking import least_held, open_aims


def price(net, lot):
    """Return the price of the lot."""
    return _price_of_lanes(net, [lane for lane, aim in lot])


def _price_of_lanes(net, lanes):
    if len(lanes) == 1:
        return 1
    return sum([net[1][lane][2] for lane in lanes])


def cheapest_lot(net):
    """Return the lot of the least price, of these with the fewest lanes, of these the least one; () if there is none.

    Sets of lanes are gone through by price, then by how many lanes they have, beginning with each lane alone. To a set
    that makes no lot the lanes ahead of one of its lanes are added, for each aim in turn. As each lane of a lot has an
    aim that leads into the lot alone, each lot with no lesser one in it is come to; and a cheapest lot is such a one.
    """
    asked = _asked_in_lots(net)
    queue = [(1, 1, (lane,)) for lane in asked]
    met = set()
    least, lots = None, []
    while len(queue) > 0 and (least is None or queue[0][:2] == least):
        cost, many, lanes = heappop(queue)
        if lanes in met:
            continue
        met.add(lanes)
        loose = [lane for lane in lanes if least_held(asked[lane], lanes) is None]
        if len(loose) == 0:
            least = (cost, many)
            lots.append(tuple([(lane, least_held(asked[lane], lanes)) for lane in lanes]))
        else:
            for others in asked[loose[0]].values():
                more = tuple(sorted(set(lanes + others)))
                heappush(queue, (_price_of_lanes(net, more), len(more), more))
    return min(lots, default=())


def _asked_in_lots(net):
    """Return the dict of open aims, with the lanes ahead, by lanes, so far as they can be in some lot."""
    lanes = [lane for lane, aim in greatest_lot(net)]
    asked = open_aims(net)
    found = {}
    for lane in lanes:
        letters = asked[lane]
        found[lane] = {aim: letters[aim] for aim in letters if all([other in lanes for other in letters[aim]])}
    return found


def most_letters(net):
    """Return how many letters may be under way without anybody ever being stuck, None for any number."""
    lot = cheapest_lot(net)
    if lot == ():
        return None
    return price(net, lot) - 1


def soonest_stuck(net):
    """Return a shortest tuple of deeds from the empty net to a stuck stand, None if the net is free."""
    lot = cheapest_lot(net)
    if lot == ():
        return None
    # One letter is enough at a dead end, whatever the room of its lane.
    return filling(net, lot)[:price(net, lot)]
