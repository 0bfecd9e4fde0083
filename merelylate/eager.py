"""Eager mills: ordinary machines that tell what an honest mill does as soon as it is sure."""

from merelylate.checks import check_mill
from merelylate.lateness import tells_eagerly
from merelylate.machines import MOST_STATES, check_eager, is_eager, run, smallest
from merelylate.mates import honest_mates
from merelylate.tellings import Owed


def run_eager(machine, letters):
    """What an eager mill tells at each letter."""
    check_eager(machine)
    return run(machine, letters)


def eager_mill(mill):
    """The eager mill with the fewest states that tells what an honest mill does as soon as it is sure."""
    check_mill(mill)
    return smallest(Owed(honest_mates(mill).live, MOST_STATES).table)


def shows_eager(mill, machine):
    """Whether a value is an eager mill that tells what an honest mill does as soon as it is sure."""
    check_mill(mill)
    live = honest_mates(mill).live
    return is_eager(machine) and tells_eagerly(machine, live)


def fast(mill):
    """The letters by which the eager mill of an honest mill tells at least one tick in whichever state it is."""
    machine = eager_mill(mill)
    return tuple([letter for letter in range(mill[0]) if all([len(state[letter][1]) > 0 for state in machine])])


def bursts(mill):
    """The greatest number of ticks that the eager mill of an honest mill tells at one letter."""
    return max([len(told) for state in eager_mill(mill) for _, told in state])
