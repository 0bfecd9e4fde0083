"""Rows of columns beside the histories of an honest mill, unlike in what they are at one tick."""

from merelylate.errors import TooMany
from merelylate.graphs import ANY, lasting, only, sources_of, span
from merelylate.mills import told_by
from merelylate.ways import Steps

MOST_TRIPLES = 20000


class OtherLetter:
    """Two histories whose inputs are unlike at one tick.

    A triple is a window of the one, a window of the other, and whether that tick is past.
    """

    def __init__(self, live):
        self.live = live
        # How many ticks later the tick at which the two are unlike is seen.
        self.seen_later = 0
        self.start = (live.starts[0], live.starts[0], False)

    def triples_behind(self, triple):
        """The triples to which letters lead a triple."""
        first, second, past = triple
        letters = range(self.live.many_letters)
        found = []
        for one in letters:
            for other in letters:
                if one == other or not past:
                    seconds = self.live.ways[second][other]
                    found.extend(paired(self.live.ways[first][one], seconds, past or one != other))
        return found

    def is_unlike(self, triple):
        """Whether the last columns of both tell unlike things."""
        return self.live.told[triple[0]] != self.live.told[triple[1]]


class Fault:
    """A history, and a row with the same input, in which at one tick the equations need not hold.

    A triple is a live window of the history, the number of any window of the row, and whether the
    equations have been asked for that tick.
    """

    def __init__(self, live):
        self.live = live
        self.steps = Steps(live.mill)
        self.seen_later = self.steps.ahead
        self.windows = [self.steps.start]
        self.numbers = {self.steps.start: 0}
        # For each window that was asked for, by letters: where the equations lead, and where any column does.
        self.ways = {}
        self.start = (live.starts[0], 0, False)

    def number_of(self, window):
        """The number of a window."""
        if window not in self.numbers:
            self.numbers[window] = len(self.windows)
            self.windows.append(window)
        return self.numbers[window]

    def ways_from(self, number):
        """For each letter the windows to which it leads, and those to which it would if the tick asked for failed."""
        if number not in self.ways:
            window = self.windows[number]
            found = []
            for columns in self.steps.columns:
                fitting = [column for column in columns if self.steps.fits(window, column)]
                failing = columns if self.steps.asks(window) else []
                found.append((self.numbers_behind(window, fitting), self.numbers_behind(window, failing)))
            self.ways[number] = found
        return self.ways[number]

    def numbers_behind(self, window, columns):
        """The numbers of the windows behind a window by some columns."""
        return [self.number_of(self.steps.behind(window, column)) for column in columns]

    def triples_behind(self, triple):
        """The triples to which letters lead a triple."""
        first, second, past = triple
        found = []
        rows = self.ways_from(second)
        for firsts, (fitting, failing) in zip(self.live.ways[first], rows):
            found.extend(paired(firsts, fitting, past))
            if not past:
                found.extend(paired(firsts, failing, True))
        return found

    def is_unlike(self, triple):
        """Whether the last columns of both tell unlike things."""
        column = self.windows[triple[1]][1][-1]
        return self.live.told[triple[0]] != told_by(self.live.mill, column)


def paired(firsts, seconds, past):
    """The triples of each of some windows with each of some others."""
    return [(first, second, past) for first in firsts for second in seconds]


class Triples:
    """All triples that can come, by numbers, and how letters lead from one to another."""

    def __init__(self, rows):
        self.rows = rows
        self.triples = [rows.start]
        self.onto = []
        self.find_triples()

    def find_triples(self):
        """Find all triples to which letters lead from the start."""
        numbers = {self.triples[0]: 0}
        while len(self.onto) < len(self.triples):
            row = []
            afters = self.rows.triples_behind(self.triples[len(self.onto)])
            for after in afters:
                if after not in numbers:
                    numbers[after] = len(self.triples)
                    self.triples.append(after)
                row.append(numbers[after])
            if len(self.triples) > MOST_TRIPLES:
                raise TooMany(MOST_TRIPLES)
            self.onto.append(row)

    def spans(self):
        """How many steps it takes from what is unlike to unlike things told, ahead of it and behind it.

        Each is the least and the greatest number, None if no unlike things are told there.
        """
        past = {number: True for number, triple in enumerate(self.triples) if triple[2]}
        still = {number: True for number in range(len(self.triples)) if number not in past}
        unlike = [number for number, triple in enumerate(self.triples) if self.rows.is_unlike(triple)]
        # Behind the tick both must go on for ever, ahead of it up to the tick.
        alive = lasting([row if number in past else [] for number, row in enumerate(self.onto)])
        behind = only(alive, self.onto)
        ahead = only(still, self.onto)
        turns = [number for number in still if behind[number]]
        turned = {after: True for number in turns for after in behind[number]}
        back = span(turns, [number for number in unlike if number in still], sources_of(ahead), ahead)
        return back, span(turned, [number for number in unlike if number in alive], behind, sources_of(behind))

    def reach(self):
        """The most ticks from unlike things told to the unlike tick, and the other way; None if none are told."""
        before, behind = self.spans()
        if before is None and behind is None:
            return None
        later = self.rows.seen_later
        # The step that the unlike tick is seen by leads to the first triple behind it, from the last one ahead of it.
        back = -behind[0] - later if before is None else added(before[1], 1 - later)
        ahead = later - before[0] - 1 if behind is None else added(behind[1], later)
        return back, ahead


def added(steps, more):
    """A number of steps and some more, ANY if there is no greatest one."""
    return ANY if steps == ANY else steps + more
