"""Papers: for each net a striking row, which shows that it is free, or a lot, which shows that it is not."""

from roomahead.kinds import is_integer, is_tuple_of
from roomahead.lots import greatest_lot, lot_error, waves
from roomahead.striking import open_aims


def row_error(net, value):
    """Return None if value is a striking row of net, otherwise the first thing that is wrong with it."""
    if not isinstance(value, tuple) or not all([is_integer(lane) for lane in value]):
        return "form"
    if sorted(value) != list(range(len(net[1]))):
        return "form"
    asked = open_aims(net)
    for place, lane in enumerate(value):
        if not _meets_all(asked[lane], value[:place]):
            return ("lane", place)
    return None


def _meets_all(letters, lanes):
    """Return whether each of the letters has one of these lanes ahead."""
    return all([any([other in lanes for other in others]) for others in letters.values()])


def paper(net):
    """Return ("free", a striking row) if the net is free, otherwise ("stuck", a lot)."""
    told = waves(net)
    if 0 in told:
        return ("stuck", greatest_lot(net))
    return ("free", tuple([lane for _, lane in sorted([(wave, lane) for lane, wave in enumerate(told)])]))


def paper_error(net, value):
    """Return None if value is a paper of net that is right, otherwise the first thing that is wrong with it."""
    if not is_tuple_of(value, 2):
        return "form"
    word, told = value
    if word == "free":
        return row_error(net, told)
    if word == "stuck":
        return lot_error(net, told)
    return "form"
