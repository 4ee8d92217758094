"""Shells: a bench that is led by lines of text."""

from roomahead.benches import Bench, edited
from roomahead.deedtexts import read_deeds
from roomahead.errors import RoomError
from roomahead.kinds import is_name, number_told
from roomahead.lots import greatest_lot
from roomahead.moving import deed_error, done, stuck
from roomahead.nettexts import net_text, read_net
from roomahead.stands import empty

GREATEST_NUMBER = 999

# What stands behind the word of each line. A text goes to the end of the line.
FORMS = {
    "new": (),
    "put": ("name", "text"),
    "drop": ("name",),
    "way": ("name", "number", "number", "number"),
    "bar": ("name", "number", "number", "number"),
    "room": ("name", "number", "number"),
    "undo": (),
    "redo": (),
    "names": (),
    "show": ("name",),
    "free": ("name",),
    "most": ("name",),
    "lot": ("name",),
    "judged": (),
    "play": ("name", "text"),
}


def _read_line(line):
    """Return the word of the line and the list of what stands behind it; None twice if it is no line of a shell."""
    word = line.split(" ", 1)[0]
    if word not in FORMS:
        return (None, None)
    forms = FORMS[word]
    # All blanks behind those that are told stay in the last part: only a text may have them.
    parts = line.split(" ", max(1, len(forms)))[1:]
    told = [_read_part(part, form) for part, form in zip(parts, forms)]
    if len(parts) != len(forms) or None in told:
        return (None, None)
    return (word, told)


def _read_part(part, form):
    """Return what the part of a line tells, None if it is not of this form."""
    if form == "number":
        return number_told(part, GREATEST_NUMBER)
    if form == "name" and not is_name(part):
        return None
    return part


def _version(bench):
    return f"version {bench.version}"


def _undo(bench):
    return f"version {bench.undo()}"


def _redo(bench):
    return f"version {bench.redo()}"


def _names(bench):
    return _row_of_words(bench.names)


def _row_of_words(words):
    return "none" if len(words) == 0 else " ".join(words)


def _show(bench, name):
    return net_text(bench.net(name))


def _free(bench, name):
    return "free" if bench.free(name) else "stuck"


def _most(bench, name):
    most = bench.most(name)
    return "any" if most is None else str(most)


def _lot(bench, name):
    return _row_of_words([f"{lane}:{aim}" for lane, aim in greatest_lot(bench.net(name))])


def _judged(bench):
    return str(bench.judged)


def _play(bench, name, text):
    # The text is read first, so that BadText comes ahead of NoNet.
    deeds = read_deeds(text)
    net = bench.net(name)
    stand = empty(net)
    for place, deed in enumerate(deeds):
        if deed_error(net, stand, deed) is not None:
            return f"refused {place}"
        stand = done(net, stand, deed)
    if stand == empty(net):
        return "empty"
    return "stuck" if stuck(net, stand) else "going"


# Edits alone are answered elsewhere.
ANSWERS = {
    "new": _version,
    "undo": _undo,
    "redo": _redo,
    "names": _names,
    "show": _show,
    "free": _free,
    "most": _most,
    "lot": _lot,
    "judged": _judged,
    "play": _play,
}


def _answer(bench, word, told):
    """Return what is answered to a line of this word."""
    if word in ANSWERS:
        action = ANSWERS[word]
        return action(bench, *told)
    if word == "put":
        # The text is read first, so that BadText comes ahead of Taken.
        told = [told[0], read_net(told[1])]
    return f"version {edited(bench, word, told)}"


class Shell:
    """A bench, at first a new one, that is led by lines."""

    def __init__(self):
        self.bench = Bench()

    def say(self, line):
        """Return what the shell answers to the line."""
        if not isinstance(line, str):
            return "what"
        word, told = _read_line(line)
        if word is None:
            return "what"
        if word == "new":
            self.bench = Bench()
        try:
            return _answer(self.bench, word, told)
        except RoomError as error:
            return "error " + type(error).__name__
