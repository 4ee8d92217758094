"""Exchanges: in which order houses get new tables, and when the net is left empty, so that nobody is ever stuck."""

from itertools import combinations, permutations

from roomahead.stages import changed, stage_letters
from roomahead.striking import struck


def exchange_row(old, new):
    """Return an order of the changed houses none of whose stages has a lot, None if there is none.

    Unfit() and TooMany(MAX_CHANGED) are raised as by changed.
    """
    return _free_order(old, new, (), changed(old, new))


def _free_order(old, new, before, houses):
    """Return an order in which the houses can be exchanged behind those of before, None if there is none.

    The net was left empty with new tables in the houses of before; none of the stages from then on has a lot.
    """
    left = list(houses)
    for order in permutations(left):
        if all([_is_free_stage(old, new, before, before + order[:many]) for many in range(len(order) + 1)]):
            return order
    return None


def _is_free_stage(old, new, before, now):
    """Return whether the stage has no lot; the houses may stand in any order."""
    return 0 not in struck(stage_letters(old, new, before, now))


def least_still(old, new):
    """Return the least number of houses exchanged while the net is empty, 0 if there is a row, None if nothing will do.

    The errors are those of exchange_row.
    """
    plan = still_plan(old, new)
    if plan is None:
        return None
    return len(plan[1])


def still_plan(old, new):
    """Return (row, (), ()) if there is a row, otherwise a free plan with the fewest houses in still, None if none is.

    The errors are those of exchange_row.
    """
    houses = list(changed(old, new))
    row = exchange_row(old, new)
    if row is not None:
        return (row, (), ())
    for many in range(1, len(houses) + 1):
        for still in combinations(houses, many):
            plan = _plan_around(old, new, still, [house for house in houses if house not in still])
            if plan is not None:
                return plan
    return None


def _plan_around(old, new, still, others):
    """Return a free plan with these houses in still and the others ahead or behind, None if there is none."""
    for many in range(len(others) + 1):
        for early in combinations(others, many):
            ahead = _free_order(old, new, (), early)
            behind = _free_order(old, new, early + still, [house for house in others if house not in early])
            if ahead is not None and behind is not None:
                return (ahead, still, behind)
    return None
