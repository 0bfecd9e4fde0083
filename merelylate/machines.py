"""Machines that tell something at each letter: what a late mill is, and the one with the fewest states."""

from merelylate.errors import BadLate
from merelylate.kinds import is_tuple, is_within

MOST_STATES = 2000
MOST_LETTERS = 3
MOST_TOLD = 3


def wrong_state(machine):
    """The number of the first state by which a tuple of states is no late mill, None for a late mill."""
    for index, state in enumerate(machine):
        if not is_state(state, len(machine)) or len(state) != len(machine[0]):
            return index
    return None


def is_state(value, many):
    """Whether a value is a state of a late mill with so many states."""
    return is_tuple(value, 1, MOST_LETTERS) and all([is_step(part, many) for part in value])


def is_step(value, many):
    """Whether a value is the number of one of so many states, and something told or None."""
    if not is_tuple(value, 2, 2) or not is_within(value[0], 0, many - 1):
        return False
    return value[1] is None or is_telling(value[1])


def is_telling(value):
    """Whether a value is what some mill may tell at a tick."""
    return is_tuple(value, 1, MOST_TOLD) and all([is_within(one, 0, 2) for one in value])


def is_late(machine):
    """Whether a value is a late mill."""
    return is_tuple(machine, 1, MOST_STATES) and wrong_state(machine) is None


def check_late(machine):
    """Raise BadLate unless a value is a late mill."""
    if not is_tuple(machine, 1, MOST_STATES):
        raise BadLate(None)
    index = wrong_state(machine)
    if index is not None:
        raise BadLate(index)


def smallest(table):
    """The machine with the fewest states that tells what a table of states does from the first one on."""
    lots = lots_alike(table)
    # One state stands for each lot; they are numbered as they are first come to.
    order = [0]
    numbers = {lots[0]: 0}
    machine = []
    while len(machine) < len(order):
        state = []
        row = table[order[len(machine)]]
        for after, told in row:
            if lots[after] not in numbers:
                numbers[lots[after]] = len(order)
                order.append(after)
            state.append((numbers[lots[after]], told))
        machine.append(tuple(state))
    return tuple(machine)


def lots_alike(table):
    """For each state of a table a number, the same one for states from which the same is told for ever."""
    lots = [0] * len(table)
    many = 1
    while True:
        marks = {}
        fresh = []
        for number, state in enumerate(table):
            mark = (lots[number],) + tuple([(lots[after], told) for after, told in state])
            fresh.append(marks.setdefault(mark, len(marks)))
        lots = fresh
        if len(marks) == many:
            return lots
        many = len(marks)
