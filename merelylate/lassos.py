"""Stems and loops: the shortest ones of pairs that are a free choice, and columns made shorter."""

from merelylate.graphs import way_back, way_round
from merelylate.pairs import ENDLESS


class Endless:
    """Pairs from which letters lead on for ever, each with whether unlike things were told on the way there."""

    def __init__(self, mates):
        self.pairs = mates.pairs
        self.told = mates.live.told
        start = mates.live.starts[0]
        self.states = [((start, start), False)]
        # The number of the state from which each one is first come to, and to which ones letters lead it.
        self.sources = [-1]
        self.onto = {}
        self.find_states()

    def find_states(self):
        """Find all states that words lead to, the shorter words first."""
        known = {self.states[0]: True}
        while len(self.onto) < len(self.states):
            at = len(self.onto)
            state = self.states[at]
            self.onto[state] = self.behind_state(state)
            for after in self.onto[state]:
                if after not in known:
                    known[after] = True
                    self.states.append(after)
                    self.sources.append(at)

    def behind_state(self, state):
        """The states to which letters lead a state."""
        pair, seen = state
        found = []
        for letter in range(self.pairs.one.many_letters):
            for after in self.pairs.afters(pair, letter):
                if self.pairs.depth(after) == ENDLESS:
                    found.append((after, seen or self.told[after[0]] != self.told[after[1]]))
        return found

    def stem_to(self, at):
        """The pairs ahead of the state of a number, from the first letter on."""
        return [self.states[number][0] for number in way_back(self.sources, at)[1:-1]]

    def shortest_loop(self, state, most):
        """The fewest pairs, not more than so many, from a state's own on by which it is come to again.

        Unlike things must have been told by then. None if there are no such pairs.
        """
        way = way_round(self.onto, state, (state[0], True), most)
        return None if way is None else [after[0] for after in way]


def shortest_lasso(mates, lasso):
    """The stem and the loop with the fewest pairs in all that are two histories that tell unlike things.

    It is the one given if no other one is shorter.
    """
    endless = Endless(mates)
    best = lasso
    # No lasso begins at the start itself, which is ahead of the first letter.
    for at in range(1, len(endless.states)):
        stem = endless.stem_to(at)
        fewer = len(best[0]) + len(best[1]) - 1 - len(stem)
        if fewer < 1:
            break
        loop = endless.shortest_loop(endless.states[at], fewer)
        if loop is not None:
            best = stem, loop
    return best


def shortened(stem, loop):
    """The same columns for ever, by the shortest loop and then the shortest stem."""
    turn = shortest_turn(loop)
    keep = len(stem)
    # The loop may begin earlier by as many columns as the stem ends with like the loop.
    while keep > 0 and stem[keep - 1] == turn[(keep - 1 - len(stem)) % len(turn)]:
        keep -= 1
    shift = (keep - len(stem)) % len(turn)
    return tuple(stem[:keep]), tuple(turn[shift:] + turn[:shift])


def shortest_turn(loop):
    """The shortest list that, again and again, is a loop."""
    for many in range(1, len(loop)):
        if len(loop) % many == 0 and loop == loop[:many] * (len(loop) // many):
            return loop[:many]
    return loop
