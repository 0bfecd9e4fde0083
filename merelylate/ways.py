"""The ways through the windows of a mill, all of them and the live ones."""

from merelylate.errors import TooMany
from merelylate.graphs import lasting
from merelylate.mills import before_tick_0
from merelylate.terms import first_failing, looks, window_length

MOST_WINDOWS = 600


class Steps:
    """The steps from window to window of a checked mill."""

    def __init__(self, mill):
        self.equations = mill[3]
        self.ahead = looks(mill[3])[1]
        self.length = window_length(mill[3])
        # Among a window's columns and the one behind them, that of the tick for which the equations are asked.
        self.asked = self.length - self.ahead
        self.start = (0, before_tick_0(mill, self.length))
        self.many_letters = mill[0]
        self.columns = [columns_with(mill, letter) for letter in range(mill[0])]

    def onward(self, window, letter):
        """The ascending tuple of the windows to which a letter leads from a window."""
        return tuple([self.behind(window, column) for column in self.columns[letter] if self.fits(window, column)])

    def behind(self, window, column):
        """The window behind a window when a column has come."""
        phase, columns = window
        return (min(phase + 1, self.ahead), columns[1:] + (column,))

    def cut(self, window):
        """What is left of a window of a mill that looks as far back and ahead, or farther."""
        return (min(window[0], self.ahead), window[1][-self.length:])

    def asks(self, window):
        """Whether the column that comes behind a window makes the equations be asked for a tick."""
        # Before that phase, the tick so far before the next column is none yet.
        return window[0] == self.ahead

    def failing_by(self, window, column):
        """The number of the first equation that fails by a column behind a window, None if the column fits."""
        if not self.asks(window):
            return None
        return first_failing(self.equations, window[1] + (column,), self.asked)

    def fits(self, window, column):
        """Whether a column may come behind a window."""
        return self.failing_by(window, column) is None


def columns_with(mill, letter):
    """All columns with a letter, ascending."""
    columns = [(letter,)]
    for name in mill[1]:
        columns = [column + (one,) for column in columns for one in range(name[0])]
    return columns


def all_ways(mill):
    """A dict of all windows that can come: for each letter, to which it leads."""
    steps = Steps(mill)
    ways = {}
    waiting = [steps.start]
    known = {steps.start}
    while waiting:
        window = waiting.pop()
        rows = [steps.onward(window, letter) for letter in range(steps.many_letters)]
        ways[window] = rows
        for row in rows:
            for after in row:
                if after not in known:
                    known.add(after)
                    waiting.append(after)
        if len(known) > MOST_WINDOWS:
            raise TooMany(MOST_WINDOWS)
    return ways


def live_ways(mill):
    """A dict of the live windows: for each letter, to which live ones it leads."""
    ways = all_ways(mill)
    alive = still_alive(ways)
    live = {}
    for window in alive:
        live[window] = [those_in(alive, row) for row in ways[window]]
    return live


def still_alive(ways):
    """A dict of True for the windows from which some letters lead on for ever."""
    numbers = {window: number for number, window in enumerate(ways)}
    alive = lasting([[numbers[after] for row in ways[window] for after in row] for window in ways])
    return {window: True for window, number in numbers.items() if number in alive}


def those_in(kept, row):
    """Those of a row of windows that are kept."""
    return tuple([window for window in row if window in kept])


def set_at_start(mill, ways):
    """The live windows that the empty word leads to."""
    return those_in(ways, (Steps(mill).start,))


def set_behind(ways, windows, letter):
    """The live windows to which a letter leads from some of them, ascending."""
    found = set()
    for window in windows:
        for after in ways[window][letter]:
            found.add(after)
    return tuple(sorted(found))
