"""The ways through the windows of a mill, all of them and the live ones."""

from merelylate.errors import TooMany
from merelylate.mills import before_tick_0
from merelylate.terms import all_hold, looks, window_length

MOST_WINDOWS = 600


class Steps:
    """The steps from window to window of a checked mill."""

    def __init__(self, mill):
        self.equations = mill[3]
        self.ahead = looks(mill[3])[1]
        self.length = window_length(mill[3])
        self.start = (0, before_tick_0(mill, self.length))
        self.many_letters = mill[0]
        self.columns = [columns_with(mill, letter) for letter in range(mill[0])]

    def onward(self, window, letter):
        """The ascending tuple of the windows to which a letter leads from a window."""
        phase, columns = window
        # Before that phase, the tick so far before the next column is none yet.
        asked = phase == self.ahead
        after = min(phase + 1, self.ahead)
        found = []
        for column in self.columns[letter]:
            row = columns + (column,)
            if not asked or all_hold(self.equations, row, self.length - self.ahead):
                found.append((after, row[1:]))
        return tuple(found)


def columns_with(mill, letter):
    """All columns with a letter, ascending."""
    columns = [(letter,)]
    for name in mill[1]:
        columns = [column + (one,) for column in columns for one in range(name[0])]
    return columns


def all_ways(mill):
    """A dict of all windows that can come: for each letter, to which it leads."""
    steps = Steps(mill)
    ways = {}
    waiting = [steps.start]
    known = {steps.start}
    while waiting:
        window = waiting.pop()
        rows = [steps.onward(window, letter) for letter in range(steps.many_letters)]
        ways[window] = rows
        for row in rows:
            for after in row:
                if after not in known:
                    known.add(after)
                    waiting.append(after)
        if len(known) > MOST_WINDOWS:
            raise TooMany(MOST_WINDOWS)
    return ways


def live_ways(mill):
    """A dict of the live windows: for each letter, to which live ones it leads."""
    ways = all_ways(mill)
    alive = still_alive(ways)
    live = {}
    for window in alive:
        live[window] = [those_in(alive, row) for row in ways[window]]
    return live


def still_alive(ways):
    """A dict of True for the windows from which some letters lead on for ever."""
    sources = {window: [] for window in ways}
    left = {}
    for window in ways:
        left[window] = 0
        for row in ways[window]:
            for after in row:
                sources[after].append(window)
                left[window] += 1
    # A window dies with the last one that it leads to.
    dying = [window for window in ways if left[window] == 0]
    while dying:
        gone = dying.pop()
        for window in sources[gone]:
            left[window] -= 1
            if left[window] == 0:
                dying.append(window)
    return {window: True for window in ways if left[window] > 0}


def those_in(kept, row):
    """Those of a row of windows that are kept."""
    return tuple([window for window in row if window in kept])


def set_at_start(mill, ways):
    """The live windows that the empty word leads to."""
    return those_in(ways, (Steps(mill).start,))


def set_behind(ways, windows, letter):
    """The live windows to which a letter leads from some of them, ascending."""
    found = set()
    for window in windows:
        for after in ways[window][letter]:
            found.add(after)
    return tuple(sorted(found))
