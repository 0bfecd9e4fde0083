"""Steps by chance from one of some states to another, each letter having its weight."""

from math import lcm

from merelylate.graphs import depths_from
from merelylate.ratios import last_row, lowest

# What stands in a row beside the unknown numbers of the states: the number 1, and the mean of a lot.
ONE = "one"
MEAN = "mean"


class Chance:
    """States numbered from 0, the start, with the one to which each letter leads, and the letters' weights."""

    def __init__(self, onto, weights):
        self.onto = onto
        self.weights = weights
        self.whole = sum(weights)
        self.lots = last_lots(onto)

    def row_of(self, state):
        """How often a state's number is counted, less those of the states that come next, each by its weight."""
        row = {state: self.whole}
        for after, weight in zip(self.onto[state], self.weights):
            row[after] = row.get(after, 0) - weight
        return {one: many for one, many in row.items() if many != 0}

    def mean_at_end(self, means):
        """The mean, a ratio, of what the lots have, by the chances that the start leads into each; means are ratios."""
        known = {state: means[number] for number, lot in enumerate(self.lots) for state in lot}
        if 0 in known:
            return known[0]
        below = 1
        for mean in means:
            below = lcm(below, mean[1])
        rows = {}
        for state in range(len(self.onto)):
            if state not in known:
                rows[state] = self.with_known(self.row_of(state), known, below)
        row = last_row(rows, 0)
        return lowest(-row.get(ONE, 0), row[0] * below)

    def with_known(self, row, known, below):
        """A row in which known ratios stand in place of the states that have them, all being so often as great."""
        found = {}
        for state, many in row.items():
            if state in known:
                above, under = known[state]
                found[ONE] = found.get(ONE, 0) + many * above * (below // under)
            else:
                found[state] = many
        return {one: many for one, many in found.items() if many != 0}

    def mean_within(self, lot, worths):
        """The mean, in the long run, of the worths of the states of a lot out of which nothing leads."""
        rows = {}
        for state in lot:
            # A state's number is what it is worth, less the mean, and then the number of the next state. Only
            # what these differ by is fixed: that of the first one may be 0.
            row = self.row_of(state)
            rows[state] = {one: many for one, many in row.items() if one != lot[0]}
            rows[state][MEAN] = self.whole
            if worths[state] != 0:
                rows[state][ONE] = -self.whole * worths[state]
        row = last_row(rows, lot[0])
        return lowest(-row.get(ONE, 0), row[MEAN])


def last_lots(onto):
    """The lots of states each of which leads to all others of its lot, and to nothing else."""
    reached = [depths_from([state], onto) for state in range(len(onto))]
    lots = []
    for state, row in enumerate(reached):
        if all([state in reached[after] for after in row]) and min(list(row)) == state:
            lots.append(sorted(row))
    return lots
