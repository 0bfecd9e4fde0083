"""How far the telling of an honest mill is changed by one tick that fails, and by one other letter."""

from merelylate.checks import check_mill
from merelylate.graphs import ANY
from merelylate.mates import honest_mates
from merelylate.triples import Fault, OtherLetter, Triples


def fault_reach(mill):
    """How many ticks ahead of, and behind, a tick that fails unlike things are told at most; None if none are."""
    check_mill(mill)
    return Triples(Fault(honest_mates(mill).live)).reach()


def heals(mill):
    """Whether a tick that fails changes what is told for so many ticks at most."""
    found = fault_reach(mill)
    return found is None or found[1] != ANY


def letter_reach(mill):
    """How many ticks ahead of, and behind, one other letter unlike things are told at most; None if none are."""
    check_mill(mill)
    return Triples(OtherLetter(honest_mates(mill).live)).reach()
