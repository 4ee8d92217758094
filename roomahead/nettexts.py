"""Nets as texts, and back."""

from roomahead.bounds import MAX_LANES
from roomahead.errors import BadText
from roomahead.kinds import number_told
from roomahead.nets import net_error


def net_text(net):
    """Return the text of the net."""
    houses, lanes, tables = net
    lines = [f"houses {houses}"]
    for start, end, room in lanes:
        lines.append(f"lane {start} {end} {room}")
    for u, table in enumerate(tables):
        for d, entry in enumerate(table):
            if len(entry) > 0:
                lines.append(f"way {u} {d}:" + "".join([f" {lane}" for lane in entry]))
    return "\n".join(lines)


def read_net(value):
    """Return the net of which value is the text; raise BadText() if there is none."""
    if not isinstance(value, str):
        raise BadText()
    net = _net_told(value)
    # _net_told lets much pass; but what is not written just as net_text writes it is no text of a net.
    if net_error(net) is not None or net_text(net) != value:
        raise BadText()
    return net


def _net_told(text):
    """Return the net of which text is the text; anything else, perhaps a net, if there is none."""
    houses, lanes, entries = None, [], {}
    for line in text.split("\n"):
        parts = line.replace(":", "").split(" ")
        # No number in a text of a net is greater than MAX_LANES.
        told = tuple([number_told(part, MAX_LANES) for part in parts[1:]])
        if parts[0] == "houses" and len(told) == 1:
            houses = told[0]
        elif parts[0] == "lane":
            lanes.append(told)
        elif parts[0] == "way":
            entries[told[:2]] = told[2:]
    if houses is None:
        return None
    tables = tuple([tuple([entries.get((u, d), ()) for d in range(houses)]) for u in range(houses)])
    return (houses, tuple(lanes), tables)
