"""Deeds: letters are put in, go on and are taken out."""

from roomahead.errors import Refused
from roomahead.kinds import is_deed
from roomahead.nets import ahead, aims, serves
from roomahead.stands import empty, has_room


def deed_error(net, stand, value):
    """Return None if value is a deed that can be done in stand, "bar" for any other deed of net, else "form"."""
    if not is_deed(value, len(net[1]), net[0]):
        return "form"
    if not _can_be_done(net, stand, value):
        return "bar"
    return None


def _can_be_done(net, stand, deed):
    word, lane, *rest = deed
    if word == "in":
        return serves(net, lane, rest[0]) and has_room(net, stand, lane)
    if len(stand[lane]) == 0:
        return False
    first = stand[lane][0]
    if word == "on":
        return rest[0] in ahead(net, lane, first) and has_room(net, stand, rest[0])
    return _is_home(net, lane, first)


def _is_home(net, lane, aim):
    """Return whether a letter with this aim is at its aim in the lane."""
    return net[1][lane][1] == aim


def done(net, stand, deed):
    """Return the stand behind the deed; raise Refused(deed) if it can't be done."""
    if deed_error(net, stand, deed) is not None:
        raise Refused(deed)
    word, lane, *rest = deed
    lying = list(stand)
    if word == "in":
        lying[lane] = stand[lane] + (rest[0],)
    else:
        lying[lane] = stand[lane][1:]
    if word == "on":
        lying[rest[0]] = stand[rest[0]] + (stand[lane][0],)
    return tuple(lying)


def led(net, stand, deeds):
    """Return the stand behind all deeds, done in order; raise Refused(deed) with the first that can't be done."""
    for deed in deeds:
        stand = done(net, stand, deed)
    return stand


def open_deeds(net, stand):
    """Return the ascending tuple of all deeds of net that can be done in stand."""
    lanes = range(len(stand))
    puts = [("in", lane, aim) for lane in lanes if has_room(net, stand, lane) for aim in aims(net, lane)]
    # "in" is less than "on" and "out", so all puts come ahead of all moves.
    return tuple(puts) + moves(net, stand)


def moves(net, stand):
    """Return the ascending tuple of all moves of net that can be done in stand."""
    firsts = [(lane, letters[0]) for lane, letters in enumerate(stand) if len(letters) > 0]
    ons = [("on", lane, other) for lane, aim in firsts for other in _lanes_open(net, stand, lane, aim)]
    outs = [("out", lane) for lane, aim in firsts if _is_home(net, lane, aim)]
    return tuple(ons + outs)


def _lanes_open(net, stand, lane, aim):
    """Return the list of the lanes ahead, of the lane for the aim, that have room."""
    return [other for other in ahead(net, lane, aim) if has_room(net, stand, other)]


def stuck(net, stand):
    """Return whether there are letters, and no move can be done."""
    return stand != empty(net) and moves(net, stand) == ()


def held_fast(net, stand):
    """Return whether there are letters, and none could go on or be taken out, were it the first of its lane."""
    letters = [(lane, aim) for lane, lying in enumerate(stand) for aim in lying]
    loose = [
        (lane, aim) for lane, aim in letters
        if _is_home(net, lane, aim) or len(_lanes_open(net, stand, lane, aim)) > 0
    ]
    return len(letters) > 0 and len(loose) == 0
