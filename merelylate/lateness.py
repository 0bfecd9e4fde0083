"""What a mill tells so many ticks late, state by state, and whether a machine tells it."""

from merelylate.errors import TooMany
from merelylate.machines import MOST_STATES
from merelylate.tellings import owed_at_start, owed_behind


class Owing:
    """The sets of live windows of an honest mill, each with what it hasn't told yet."""

    def __init__(self, live, ticks):
        self.live = live
        self.ticks = ticks

    def step(self, owed, letter):
        """The set to which a letter leads from a set, and what is told at the letter."""
        fresh = {}
        told = None
        for number, row in owed:
            for after in self.live.ways[number][letter]:
                told, fresh[after] = self.split_row(row + (self.live.told[after],))
        return tuple([(number, fresh[number]) for number in sorted(fresh)]), told

    def split_row(self, row):
        """What is told of a row when it gets too long, and what is kept."""
        if len(row) <= self.ticks:
            return None, row
        return row[0], row[1:]


def late_table(live, delay):
    """The states of a machine that tells what an honest mill does so many ticks late."""
    owing = Owing(live, delay)
    sets = [owed_at_start(live)]
    numbers = {sets[0]: 0}
    table = []
    while len(table) < len(sets):
        state = []
        for letter in range(live.many_letters):
            after, told = owing.step(sets[len(table)], letter)
            if after not in numbers:
                numbers[after] = len(sets)
                sets.append(after)
            state.append((numbers[after], told))
        if len(sets) > MOST_STATES:
            raise TooMany(MOST_STATES)
        table.append(state)
    return table


def tells_late(machine, live, delay):
    """Whether a machine tells what an honest mill does so many ticks late, and nothing before."""
    if len(machine[0]) != live.many_letters:
        return False
    # If it does, what is still to be told depends on the state and the window alone: whatever
    # letters lead on from both, from now on the same is told.
    due = {(0, number): (None,) * delay for number in live.starts}
    waiting = list(due)
    while waiting:
        place = waiting.pop()
        for letter, (state, told) in enumerate(machine[place[0]]):
            for number in live.ways[place[1]][letter]:
                row = due[place] + (live.told[number],)
                after = (state, number)
                if after not in due:
                    due[after] = row[1:]
                    waiting.append(after)
                if row[0] != told or due[after] != row[1:]:
                    return False
    return True


def tells_eagerly(machine, live):
    """Whether a machine tells what an honest mill does as soon as it is sure, and nothing before."""
    if len(machine[0]) != live.many_letters:
        return False
    waiting = [(0, owed_at_start(live))]
    # If it does, what a window owes depends on the state, the window and the number of ticks alone: both
    # with it and without it, what is told by the ways that lead on from there follows.
    due = {place_of(0, waiting[0][1]): waiting[0][1]}
    while waiting:
        number, owed = waiting.pop()
        for letter, (state, told) in enumerate(machine[number]):
            after, sure = owed_behind(live, owed, letter)
            place = place_of(state, after)
            if place not in due:
                due[place] = after
                waiting.append((state, after))
            if sure != told or due[place] != after:
                return False
    return True


def place_of(state, owed):
    """A state, the live windows of what is owed, and how many ticks these owe."""
    return state, tuple([number for number, _ in owed]), len(owed[0][1])
