"""Rows of deeds as texts, and back."""

from roomahead.bounds import MAX_DEEDS, MAX_HOUSES, MAX_LANES
from roomahead.errors import BadText
from roomahead.kinds import is_deed, number_told


def deeds_text(deeds):
    """Return the text of the deeds."""
    if len(deeds) == 0:
        return "none"
    return "; ".join([" ".join([str(item) for item in deed]) for deed in deeds])


def read_deeds(value):
    """Return the deeds of which value is the text; raise BadText() if there are none."""
    if not isinstance(value, str):
        raise BadText()
    if value == "none":
        return ()
    deeds = tuple([_deed_told(part) for part in value.split("; ")])
    if len(deeds) > MAX_DEEDS or not all([is_deed(deed, MAX_LANES, MAX_HOUSES) for deed in deeds]):
        raise BadText()
    return deeds


def _deed_told(text):
    """Return the deed of which text is the text, a tuple that is no deed if there is none."""
    parts = text.split(" ")
    return (parts[0],) + tuple([number_told(part, MAX_LANES) for part in parts[1:]])
