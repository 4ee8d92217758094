"""Stages: what letters under way can come to while tables are exchanged house by house."""

from roomahead.bounds import MAX_CHANGED
from roomahead.errors import TooMany, Unfit
from roomahead.lots import filling
from roomahead.nets import ahead, serves
from roomahead.striking import left_over


def changed(old, new):
    """Return the ascending tuple of the houses with other tables in new than in old.

    Unfit() is raised if the houses or the lanes of old and new are unlike, then TooMany(MAX_CHANGED) if more houses
    than that are changed.
    """
    if old[:2] != new[:2]:
        raise Unfit()
    found = tuple([house for house in range(old[0]) if old[2][house] != new[2][house]])
    if len(found) > MAX_CHANGED:
        raise TooMany(MAX_CHANGED)
    return found


def stage_lot(old, new, before, now):
    """Return the greatest lot of the stage, () if it has none.

    What changed raises is raised, then Unfit() if (before, now) is no stage.
    """
    _check_stage(old, new, before, now)
    return left_over(stage_letters(old, new, before, now))


def _check_stage(old, new, before, now):
    """Raise what changed raises, then Unfit() if (before, now) is no stage."""
    houses = changed(old, new)
    if not _is_ascending_part(now, houses) or not _is_ascending_part(before, now):
        raise Unfit()


def _is_ascending_part(houses, others):
    """Return whether the houses ascend, and all are among the others."""
    return list(houses) == sorted(set(houses)) and all([house in others for house in houses])


def stage_letters(old, new, before, now):
    """Return the list with for each lane the dict of its open aims by the stage, each with the lanes ahead."""
    found = []
    for lane, (start, end, room) in enumerate(old[1]):
        behind = new if end in now else old
        served = [aim for aim in range(old[0]) if _serves_by_stage(old, new, before, now, lane, aim)]
        found.append({aim: ahead(behind, lane, aim) for aim in served if aim != end})
    return found


def _serves_by_stage(old, new, before, now, lane, aim):
    start = old[1][lane][0]
    return _serves_by_old(old, before, lane, aim) or (start in now and serves(new, lane, aim))


def _serves_by_old(old, before, lane, aim):
    """Return whether a letter with the aim can have come into the lane by a table of old since the net was empty."""
    start = old[1][lane][0]
    return start not in before and serves(old, lane, aim)


def stage_filling(old, new, before, now, lot):
    """Return the deeds that fill the lanes of the lot: those that tables of old let, and those of new alone.

    The errors are those of stage_lot.
    """
    _check_stage(old, new, before, now)
    early = [pair for pair in lot if _serves_by_old(old, before, pair[0], pair[1])]
    late = [pair for pair in lot if pair not in early]
    return (filling(old, early), filling(old, late))
