"""The live windows of a mill by numbers, and the ways between them."""

from merelylate.checks import is_column
from merelylate.kinds import is_tuple, is_within
from merelylate.masks import mask_of, numbers_in
from merelylate.mills import told_by
from merelylate.terms import looks, window_length
from merelylate.ways import live_ways, set_at_start


class Live:
    """The live windows of a checked mill, numbered in ascending order."""

    def __init__(self, mill):
        ways = live_ways(mill)
        self.mill = mill
        self.many_letters = mill[0]
        self.ahead = looks(mill[3])[1]
        self.length = window_length(mill[3])
        self.windows = sorted(ways)
        self.numbers = {window: number for number, window in enumerate(self.windows)}
        # For each window and letter: to which windows it leads, as a list and as a mask.
        self.ways = [[self.numbered(row) for row in ways[window]] for window in self.windows]
        self.masks = [[mask_of(row) for row in rows] for rows in self.ways]
        self.starts = self.numbered(set_at_start(mill, ways))
        # A window's last column is that of the tick at which it is come to.
        self.columns = [window[1][-1] for window in self.windows]
        self.told = [told_by(mill, column) for column in self.columns]
        self.telling = masks_by(self.told)

    def numbered(self, windows):
        """The numbers of some live windows."""
        return [self.numbers[window] for window in windows]

    def number(self, value):
        """The number of a live window, None for any other value."""
        if not is_tuple(value, 2, 2) or not is_within(value[0], 0, self.ahead):
            return None
        if not is_tuple(value[1], self.length, self.length):
            return None
        if not all([is_column(self.mill, column) for column in value[1]]):
            return None
        return self.numbers.get(value)

    def mask_behind(self, mask, letter):
        """The mask of the windows to which a letter leads from those of a mask."""
        found = 0
        for number in numbers_in(mask):
            found |= self.masks[number][letter]
        return found

    def with_column(self, number, column):
        """The window to which a column leads from a window, None if it leads to no live one."""
        for after in self.ways[number][column[0]]:
            if self.columns[after] == column:
                return after
        return None

    def begins_history(self, columns):
        """Whether columns are those with which a history begins."""
        if not self.starts:
            return False
        now = self.starts[0]
        for column in columns:
            now = self.with_column(now, column)
            if now is None:
                return False
        return True


def masks_by(marks):
    """For each unlike thing in a list, the mask of the numbers at which it stands."""
    found = {}
    for number, mark in enumerate(marks):
        found[mark] = found.get(mark, 0) | 1 << number
    return found
