"""Rescues: how all letters of a stand come home with the fewest moves."""

from roomahead.bounds import MAX_MET
from roomahead.errors import TooMany
from roomahead.moving import done, moves
from roomahead.stands import empty


def homeward(net, stand):
    """Return a shortest row of moves from stand to the empty net, None if there is none.

    TooMany(MAX_MET) is raised ahead of that if more than MAX_MET stands can be come to by moves.
    """
    rows = {stand: ()}
    met = [stand]
    place = 0
    while place < len(met):
        here = met[place]
        for move in moves(net, here):
            behind = done(net, here, move)
            if behind not in rows:
                rows[behind] = rows[here] + (move,)
                met.append(behind)
        if len(met) > MAX_MET:
            raise TooMany(MAX_MET)
        place += 1
    return rows.get(empty(net))
