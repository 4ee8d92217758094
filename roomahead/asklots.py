"""Closed lots of asks and answers together."""

from roomahead.askdeeds import ahead_of, check_alike, is_home, serves_letter
from roomahead.lots import filling
from roomahead.nets import aims
from roomahead.striking import left_over


def ask_free(asks, answers):
    """Return whether both have no lot together; raise Unfit() if the houses or the lanes of both are unlike."""
    return ask_lot(asks, answers) == ()


def ask_lot(asks, answers):
    """Return the lot of all lanes that are never struck out, () if there is none.

    Unfit() is raised if the houses or the lanes of both are unlike.
    """
    check_alike(asks, answers)
    return left_over([_open_letters(asks, answers, lane) for lane in range(len(asks[1]))])


def _open_letters(asks, answers, lane):
    """Return the dict of the letters that the lane serves and that are not home at its end, with the lanes ahead."""
    served = [letter for letter in _letters(asks[0]) if serves_letter(asks, answers, lane, letter)]
    return {letter: ahead_of(asks, answers, lane, letter) for letter in served if not is_home(asks, lane, letter)}


def _letters(many):
    """Return the list of all letters where there are so many houses."""
    houses = range(many)
    return [("answer", aim) for aim in houses] + [("ask", aim, back) for aim in houses for back in houses]


def ask_filling(asks, answers, lot):
    """Return the deeds that fill the lanes of the lot, one behind another, from their own houses.

    Unfit() is raised if the houses or the lanes of both are unlike.
    """
    check_alike(asks, answers)
    return filling(asks, lot)


def apart(asks, answers):
    """Return whether no lane serves some aim in both; raise Unfit() if the houses or the lanes of both are unlike."""
    check_alike(asks, answers)
    return all([aims(asks, lane) == () or aims(answers, lane) == () for lane in range(len(asks[1]))])
