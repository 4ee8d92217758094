"""Judgements: what a bench keeps of a net that it was asked of."""

from roomahead.lots import free
from roomahead.papers import paper
from roomahead.prices import most_letters


def judgement(net):
    """Return the triple of what free, paper and most_letters tell of the net."""
    return (free(net), paper(net), most_letters(net))
