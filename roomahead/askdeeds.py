"""Asks that turn into answers where they aim at: how their letters are put in, go on and are taken out."""

from roomahead.errors import Refused, Unfit
from roomahead.kinds import is_tuple_of, within
from roomahead.nets import ahead, serves
from roomahead.stands import empty, has_room


def check_alike(asks, answers):
    """Raise Unfit() if the houses or the lanes of both are unlike."""
    if asks[:2] != answers[:2]:
        raise Unfit()


def serves_letter(asks, answers, lane, letter):
    """Return whether the lane serves the letter."""
    if letter[0] == "ask":
        return serves(asks, lane, letter[1])
    return serves(answers, lane, letter[1])


def is_home(net, lane, letter):
    """Return whether the letter is to be taken out of the lane; net is either one of both."""
    return _going_on(net, lane, letter) == ("answer", net[1][lane][1])


def ahead_of(asks, answers, lane, letter):
    """Return the lanes into which the letter may go on from the lane."""
    going = _going_on(asks, lane, letter)
    if going[0] == "ask":
        return ahead(asks, lane, going[1])
    return ahead(answers, lane, going[1])


def _going_on(net, lane, letter):
    """Return the letter as it goes on from the lane: an ask at its aim turns into its answer."""
    if letter[0] == "ask" and letter[1] == net[1][lane][1]:
        return ("answer", letter[2])
    return letter


def ask_stand_error(asks, answers, value):
    """Return None if value is a stand of both, otherwise the first thing that is wrong with it.

    Unfit() is raised if the houses or the lanes of both are unlike.
    """
    check_alike(asks, answers)
    if not is_tuple_of(value, len(asks[1])):
        return "form"
    for k, letters in enumerate(value):
        if not _can_lie(asks, answers, k, letters):
            return ("lane", k)
    return None


def _can_lie(asks, answers, lane, value):
    """Return whether value is a tuple of letters that can lie in the lane."""
    if not isinstance(value, tuple) or len(value) > asks[1][lane][2]:
        return False
    return all([_is_letter(asks[0], letter) and serves_letter(asks, answers, lane, letter) for letter in value])


def _is_letter(houses, value):
    """Return whether value is a letter where there are so many houses."""
    if not is_tuple_of(value, 2) and not is_tuple_of(value, 3):
        return False
    word = "answer" if len(value) == 2 else "ask"
    return value[0] == word and all([within(house, 0, houses - 1) for house in value[1:]])


def ask_done(asks, answers, stand, deed):
    """Return the stand behind the deed; raise Refused(deed) if it can't be done.

    Ahead of that Unfit() is raised if the houses or the lanes of both are unlike.
    """
    check_alike(asks, answers)
    if not _can_be_done(asks, answers, stand, deed):
        raise Refused(deed)
    word, lane, *rest = deed
    lying = list(stand)
    if word == "in":
        lying[lane] = stand[lane] + (rest[0],)
    else:
        lying[lane] = stand[lane][1:]
    if word == "on":
        lying[rest[0]] = stand[rest[0]] + (_going_on(asks, lane, stand[lane][0]),)
    return tuple(lying)


def _can_be_done(asks, answers, stand, deed):
    if deed[0] == "in":
        _, lane, letter = deed
        return serves_letter(asks, answers, lane, letter) and has_room(asks, stand, lane)
    return deed in ask_moves(asks, answers, stand)


def ask_moves(asks, answers, stand):
    """Return the ascending tuple of all deeds but "in" that can be done in stand.

    Unfit() is raised if the houses or the lanes of both are unlike.
    """
    check_alike(asks, answers)
    firsts = [(lane, letters[0]) for lane, letters in enumerate(stand) if len(letters) > 0]
    ways = [(lane, other) for lane, letter in firsts for other in ahead_of(asks, answers, lane, letter)]
    ons = [("on", lane, other) for lane, other in ways if has_room(asks, stand, other)]
    outs = [("out", lane) for lane, letter in firsts if is_home(asks, lane, letter)]
    return tuple(ons + outs)


def ask_stuck(asks, answers, stand):
    """Return whether there are letters, and no deed but "in" can be done.

    Unfit() is raised if the houses or the lanes of both are unlike.
    """
    check_alike(asks, answers)
    return stand != empty(asks) and ask_moves(asks, answers, stand) == ()
