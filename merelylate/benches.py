"""A mill at work, letter by letter."""

from merelylate.checks import check_letter, check_mill, is_column
from merelylate.errors import BadStep, TooMany
from merelylate.kinds import is_tuple
from merelylate.live import Live
from merelylate.tellings import MOST_WAYS


class Bench:
    """A mill that reads letters, can take them back, and be held to some of its histories."""

    def __init__(self, mill):
        check_mill(mill)
        self.mill = mill
        self.live = Live(mill)
        self.word = []
        # Behind each number of letters the open ways: the place, one letter before, of the way that
        # each one goes on, and the live window in which it ends.
        self.levels = [[(0, number) for number in self.live.starts]]

    def read(self, letter):
        """Read the next letter, and say what may be told at its tick."""
        check_letter(self.mill, letter)
        fresh = []
        for place, (_, number) in enumerate(self.levels[-1]):
            fresh.extend([(place, after) for after in self.live.ways[number][letter]])
            if len(fresh) > MOST_WAYS:
                raise TooMany(MOST_WAYS)
        if not fresh:
            raise BadStep("no open history goes on by this letter")
        self.levels.append(fresh)
        self.word.append(letter)
        return tuple(sorted({self.live.told[number] for _, number in fresh}))

    def back(self):
        """Take the last letter back, and what was chosen behind it."""
        if not self.word:
            raise BadStep("no letter to be taken back")
        self.levels.pop()
        self.word.pop()

    def choose(self, columns):
        """Keep only the histories whose columns so far are these."""
        many = len(self.word)
        if not is_tuple(columns, many, many) or not all([is_column(self.mill, column) for column in columns]):
            raise BadStep("not as many columns of the mill as letters were read")
        place = self.place_of(columns)
        if place is None:
            raise BadStep("no open history has these columns")
        self.levels[-1] = [self.levels[-1][place]]

    def place_of(self, columns):
        """The place of the open way that has some columns, None if there is none."""
        place = 0 if self.levels[0] else None
        for column, level in zip(columns, self.levels[1:]):
            place = self.place_behind(level, place, column)
        return place

    def place_behind(self, level, place, column):
        """The place of the way that goes on one of a place by a column, None if there is none."""
        for at, (source, number) in enumerate(level):
            if source == place and self.live.columns[number] == column:
                return at
        return None

    def sure(self):
        """For each tick so far the column that all open histories have, None where they have unlike ones."""
        found = []
        places = {place: True for place in range(len(self.levels[-1]))}
        for level in self.levels[:0:-1]:
            ways = [level[place] for place in places]
            columns = {self.live.columns[number]: True for _, number in ways}
            found.append(list(columns)[0] if len(columns) == 1 else None)
            places = {source: True for source, _ in ways}
        return tuple(found[::-1])

    @property
    def letters(self):
        """The letters read so far."""
        return tuple(self.word)

    @property
    def left(self):
        """The open rows of columns so far, ascending."""
        return tuple(sorted([self.row_to(place) for place in range(len(self.levels[-1]))]))

    def row_to(self, place):
        """The columns of the open way of a place."""
        row = []
        now = place
        for level in self.levels[:0:-1]:
            source, number = level[now]
            row.append(self.live.columns[number])
            now = source
        return tuple(row[::-1])
