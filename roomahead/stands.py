"""Stands: which letters lie in which lanes, each letter told by its aim."""

from roomahead.kinds import is_tuple_of, within
from roomahead.nets import serves


def stand_error(net, value):
    """Return None if value is a stand of net, otherwise the first thing that is wrong with it."""
    if not is_tuple_of(value, len(net[1])):
        return "form"
    for k, letters in enumerate(value):
        if not _can_lie(net, k, letters):
            return ("lane", k)
    return None


def _can_lie(net, lane, value):
    """Return whether value is a tuple of letters that can lie in the lane."""
    if not isinstance(value, tuple) or len(value) > net[1][lane][2]:
        return False
    return all([within(aim, 0, net[0] - 1) and serves(net, lane, aim) for aim in value])


def empty(net):
    """Return the stand without letters."""
    return ((),) * len(net[1])


def has_room(net, stand, lane):
    """Return whether fewer letters lie in the lane than it has room for."""
    return len(stand[lane]) < net[1][lane][2]
