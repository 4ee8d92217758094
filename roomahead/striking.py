"""Lanes struck out in waves: shared by all that asks for closed lots.

What a lane is asked for is told by a list of dicts, one for each lane: each letter that has to go on from this lane,
with the tuple of the lanes into which it may go.
"""

from roomahead.nets import ahead, aims


def open_aims(net):
    """Return the list with for each lane the dict of its open aims, ascending, each with the lanes ahead."""
    found = []
    for lane, (start, end, room) in enumerate(net[1]):
        found.append({aim: ahead(net, lane, aim) for aim in aims(net, lane) if aim != end})
    return found


def struck(asked):
    """Return the list with for each lane the wave in which it is struck out, 0 if it never is."""
    told = [0] * len(asked)
    wave = 1
    while True:
        gone = [lane for lane, letters in enumerate(asked) if told[lane] == 0 and _can_go(letters, told)]
        if len(gone) == 0:
            return told
        for lane in gone:
            told[lane] = wave
        wave += 1


def _can_go(letters, told):
    """Return whether each of the letters has a lane ahead that was struck out."""
    return all([any([told[other] > 0 for other in others]) for others in letters.values()])


def left_over(asked):
    """Return the pairs of all lanes never struck out, each with its least letter that has only such lanes ahead."""
    told = struck(asked)
    left = [lane for lane, wave in enumerate(told) if wave == 0]
    return tuple([(lane, least_held(asked[lane], left)) for lane in left])


def least_held(letters, lanes):
    """Return the least of the letters that has none but these lanes ahead, None if there is none."""
    held = [letter for letter, others in letters.items() if all([other in lanes for other in others])]
    return min(held, default=None)
