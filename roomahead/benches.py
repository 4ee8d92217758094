"""Benches: nets kept by names, edited step by step, back and forth."""

from roomahead.bounds import MAX_EDITS, MAX_NAMES, MAX_ROOM
from roomahead.choices import with_choice, without_choice
from roomahead.errors import (
    BadLog, BadNet, NoNet, NoVersion, NothingToRedo, NothingToUndo, RoomError, Taken, TooMany, TooManyEdits, Unfit,
)
from roomahead.judging import judgement
from roomahead.kinds import is_name, is_tuple_of, within
from roomahead.nets import net_error

# How many arguments each edit has.
EDITS = {"put": 2, "drop": 1, "way": 4, "bar": 4, "room": 3}


class Bench:
    """Nets kept by names, with all edits that stand or were taken back."""

    def __init__(self):
        self._edits = []
        # What was kept behind each number of edits, as ascending tuples of pairs (name, net): one more than edits.
        self._kept = [()]
        self._version = 0
        self._judgements = {}

    def __eq__(self, other):
        return isinstance(other, Bench) and self._kept[self._version] == other._kept[other._version]

    @property
    def names(self):
        """The ascending tuple of the names."""
        return tuple([name for name, net in self._kept[self._version]])

    @property
    def version(self):
        """How many edits stand."""
        return self._version

    @property
    def log(self):
        """The tuple of the edits that stand, each a pair of its word and the tuple of its arguments."""
        return tuple(self._edits[:self._version])

    @property
    def judged(self):
        """How many unlike nets were judged."""
        return len(self._judgements)

    def net(self, name):
        """Return the net of the name; raise NoNet(name) if there is none."""
        for known, net in self._kept[self._version]:
            if known == name:
                return net
        raise NoNet(name)

    def put(self, name, net):
        """Keep the net under the name; return the new version."""
        if not is_name(name):
            raise Unfit()
        error = net_error(net)
        if error is not None:
            raise BadNet(error)
        if name in self.names:
            raise Taken(name)
        if len(self.names) == MAX_NAMES:
            raise TooMany(MAX_NAMES)
        return self._keep(("put", (name, net)), name, (net,))

    def drop(self, name):
        """Let the name go, with its net; return the new version."""
        self.net(name)
        return self._keep(("drop", (name,)), name, ())

    def way(self, name, house, aim, lane):
        """Take a choice in the net of the name; return the new version."""
        net = with_choice(self.net(name), (house, aim, lane))
        return self._keep(("way", (name, house, aim, lane)), name, (net,))

    def bar(self, name, house, aim, lane):
        """Leave a choice out of the net of the name; return the new version."""
        net = without_choice(self.net(name), (house, aim, lane))
        return self._keep(("bar", (name, house, aim, lane)), name, (net,))

    def room(self, name, lane, room):
        """Give a lane in the net of the name this room; return the new version."""
        net = _with_room(self.net(name), lane, room)
        return self._keep(("room", (name, lane, room)), name, (net,))

    def _keep(self, edit, name, nets):
        """Let the edit stand, behind which the name has the one net of nets, or is none if there is none."""
        if self._version == MAX_EDITS:
            raise TooManyEdits()
        others = [pair for pair in self._kept[self._version] if pair[0] != name]
        kept = tuple(sorted(others + [(name, net) for net in nets]))
        self._edits = self._edits[:self._version] + [edit]
        self._kept = self._kept[:self._version + 1] + [kept]
        self._version += 1
        return self._version

    def undo(self):
        """Take the last edit that stands back; return the version then."""
        if self._version == 0:
            raise NothingToUndo()
        self._version -= 1
        return self._version

    def redo(self):
        """Do again what was taken back last; return the version then."""
        if self._version == len(self._edits):
            raise NothingToRedo()
        self._version += 1
        return self._version

    def at(self, version):
        """Return the ascending tuple of the pairs (name, net) that were kept when so many edits stood."""
        if not within(version, 0, self._version):
            raise NoVersion(version)
        return self._kept[version]

    def copy(self):
        """Return a bench that is as this one, and goes its own way."""
        other = Bench()
        other._edits = list(self._edits)
        other._kept = list(self._kept)
        other._version = self._version
        other._judgements = {net: told for net, told in self._judgements.items()}
        return other

    def free(self, name):
        """Return whether the net of the name is free."""
        return self._judgement(name)[0]

    def paper(self, name):
        """Return the paper of the net of the name."""
        return self._judgement(name)[1]

    def most(self, name):
        """Return how many letters may be under way in the net of the name, None for any number."""
        return self._judgement(name)[2]

    def _judgement(self, name):
        net = self.net(name)
        if net not in self._judgements:
            self._judgements[net] = judgement(net)
        return self._judgements[net]


def _with_room(net, lane, room):
    """Return the net in which the lane has this room; raise Unfit() if there is no such lane, or it is no room."""
    houses, lanes, tables = net
    if not within(lane, 0, len(lanes) - 1) or not within(room, 1, MAX_ROOM):
        raise Unfit()
    start, end, _ = lanes[lane]
    return (houses, lanes[:lane] + ((start, end, room),) + lanes[lane + 1:], tables)


def edited(bench, word, told):
    """Do the edit of this word with the arguments told on the bench; return the new version."""
    if word == "put":
        return bench.put(*told)
    if word == "drop":
        return bench.drop(*told)
    if word == "way":
        return bench.way(*told)
    if word == "bar":
        return bench.bar(*told)
    return bench.room(*told)


def bench_behind(log):
    """Return a new bench on which the edits of log were done, one behind another.

    BadLog(place) is raised with the place of the first item that is no edit, or can't be done; 0 if log is no tuple.
    """
    if not isinstance(log, tuple):
        raise BadLog(0)
    bench = Bench()
    for place, item in enumerate(log):
        if not _is_edit(item):
            raise BadLog(place)
        word, told = item
        try:
            edited(bench, word, told)
        except RoomError:
            raise BadLog(place) from None
    return bench


def _is_edit(value):
    """Return whether value is a pair of the word of an edit and a tuple of as many items as this has arguments."""
    if not is_tuple_of(value, 2) or not isinstance(value[0], str):
        return False
    return value[0] in EDITS and is_tuple_of(value[1], EDITS[value[0]])
