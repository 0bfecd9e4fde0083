"""Machines that tell something at each letter: late and eager mills, and the ones with the fewest states."""

from merelylate.errors import BadEager, BadLate, BadLetters
from merelylate.kinds import is_tuple, is_within

MOST_STATES = 2000
MOST_LETTERS = 3
MOST_TOLD = 3
LONGEST_RUN = 400


def wrong_state(machine, is_told):
    """The number of the first state by which a tuple of states is no machine, None for a machine.

    Another function says whether a value is what may be told at a letter.
    """
    for index, state in enumerate(machine):
        if not is_state(state, len(machine), is_told) or len(state) != len(machine[0]):
            return index
    return None


def is_state(value, many, is_told):
    """Whether a value is a state of a machine with so many states."""
    return is_tuple(value, 1, MOST_LETTERS) and all([is_step(part, many, is_told) for part in value])


def is_step(value, many, is_told):
    """Whether a value is the number of one of so many states, and what may be told."""
    return is_tuple(value, 2, 2) and is_within(value[0], 0, many - 1) and is_told(value[1])


def is_telling(value):
    """Whether a value is what some mill may tell at a tick."""
    return is_tuple(value, 1, MOST_TOLD) and all([is_within(one, 0, 2) for one in value])


def is_told_late(value):
    """Whether a value is what a late mill may tell at a letter."""
    return value is None or is_telling(value)


def is_told_eagerly(value):
    """Whether a value is what an eager mill may tell at a letter."""
    return isinstance(value, tuple) and all([is_telling(one) for one in value])


def are_states(value):
    """Whether a value is a tuple of so many things as a machine may have states."""
    return is_tuple(value, 1, MOST_STATES)


def is_late(machine):
    """Whether a value is a late mill."""
    return are_states(machine) and wrong_state(machine, is_told_late) is None


def is_eager(machine):
    """Whether a value is an eager mill."""
    return are_states(machine) and wrong_state(machine, is_told_eagerly) is None


def check_late(machine):
    """Raise BadLate unless a value is a late mill."""
    if not are_states(machine):
        raise BadLate(None)
    index = wrong_state(machine, is_told_late)
    if index is not None:
        raise BadLate(index)


def check_eager(machine):
    """Raise BadEager unless a value is an eager mill."""
    if not are_states(machine):
        raise BadEager(None)
    index = wrong_state(machine, is_told_eagerly)
    if index is not None:
        raise BadEager(index)


def run(machine, letters):
    """What a machine tells at each letter; BadLetters for any value that is no word of its letters."""
    if not is_tuple(letters, 0, LONGEST_RUN):
        raise BadLetters("no tuple of letters, or too long a one")
    if not all([is_within(letter, 0, len(machine[0]) - 1) for letter in letters]):
        raise BadLetters("no letter of the machine")
    now = 0
    found = []
    for letter in letters:
        now, told = machine[now][letter]
        found.append(told)
    return tuple(found)


def smallest(table):
    """The machine with the fewest states that tells what a table of states does from the first one on."""
    lots = lots_alike(table)
    # One state stands for each lot; they are numbered as they are first come to.
    order = [0]
    numbers = {lots[0]: 0}
    machine = []
    while len(machine) < len(order):
        state = []
        row = table[order[len(machine)]]
        for after, told in row:
            if lots[after] not in numbers:
                numbers[lots[after]] = len(order)
                order.append(after)
            state.append((numbers[lots[after]], told))
        machine.append(tuple(state))
    return tuple(machine)


def lots_alike(table):
    """For each state of a table a number, the same one for states from which the same is told for ever."""
    lots = [0] * len(table)
    many = 1
    while True:
        marks = {}
        fresh = []
        for number, state in enumerate(table):
            mark = (lots[number],) + tuple([(lots[after], told) for after, told in state])
            fresh.append(marks.setdefault(mark, len(marks)))
        lots = fresh
        if len(marks) == many:
            return lots
        many = len(marks)
