"""What may be told at the ticks of a word, and what an honest mill owes behind it."""

from merelylate.errors import TooMany

MOST_WAYS = 20000


class Told:
    """The rows of what is told at the ticks of a word, each with the live windows that it may end in."""

    def __init__(self, live):
        self.live = live
        self.rows = [() for _ in live.starts]
        # A row's number, and the window at the end of a way that tells it.
        self.ends = [(0, number) for number in live.starts]

    def go_on(self, letter):
        """Add what is told at the tick of the next letter."""
        numbers = {}
        ends = {}
        for row, window in self.ends:
            for after in self.live.ways[window][letter]:
                fresh = (row, self.live.told[after])
                number = numbers.setdefault(fresh, len(numbers))
                ends[(number, after)] = True
                if len(ends) > MOST_WAYS:
                    raise TooMany(MOST_WAYS)
        self.rows = [self.rows[row] + (told,) for row, told in numbers]
        self.ends = list(ends)


def told_by_word(live, letters):
    """The rows of what is told at the ticks of a word, ascending."""
    told = Told(live)
    for letter in letters:
        told.go_on(letter)
    return sorted(told.rows)


def shared(rows, ticks):
    """For each of so many ticks, what all rows have there, None if they have unlike things or there is none."""
    if not rows:
        return (None,) * ticks
    return tuple([rows[0][tick] if all_alike(rows, tick) else None for tick in range(ticks)])


def all_alike(rows, tick):
    """Whether all rows have the same at a tick."""
    return all([row[tick] == rows[0][tick] for row in rows])


def owed_at_start(live):
    """The live windows that the empty word leads to, each with what it told: nothing."""
    return tuple([(number, ()) for number in live.starts])


def owed_behind(live, owed, letter):
    """To which live windows a letter leads some, each with what it told from the first unsure tick on.

    With them what gets sure: the tellings of the next ticks, as many as are.
    """
    fresh = []
    for number, row in owed:
        for after in live.ways[number][letter]:
            fresh.append((after, row + (live.told[after],)))
    keep = sure_ticks([row for _, row in fresh])
    # Several ways may come to one window: in an honest mill they told the same.
    return tuple(sorted({(number, row[keep:]) for number, row in fresh})), fresh[0][1][:keep]


def sure_ticks(rows):
    """At how many ticks, from the first one on, all rows have the same."""
    ticks = 0
    while ticks < len(rows[0]) and all_alike(rows, ticks):
        ticks += 1
    return ticks


class Owed:
    """All that words make an honest mill owe, the least of the shortest words first."""

    def __init__(self, live, most):
        self.live = live
        self.found = [owed_at_start(live)]
        self.words = [()]
        # For each the number of that to which a letter leads, and what gets sure at the letter.
        self.table = []
        self.find_all(most)

    def find_all(self, most):
        """Find so many at most."""
        numbers = {self.found[0]: 0}
        while len(self.table) < len(self.found):
            at = len(self.table)
            state = []
            for letter in range(self.live.many_letters):
                after, told = owed_behind(self.live, self.found[at], letter)
                if after not in numbers:
                    numbers[after] = len(self.found)
                    self.found.append(after)
                    self.words.append(self.words[at] + (letter,))
                state.append((numbers[after], told))
            if len(self.found) > most:
                raise TooMany(most)
            self.table.append(state)

    def numbers_owed(self):
        """How many ticks are owed in each: all rows of one are as long."""
        return [len(owed[0][1]) for owed in self.found]
