"""The mates of a mill: pairs of live windows to which one word leads."""

from merelylate.errors import NotHonest
from merelylate.live import Live
from merelylate.pairs import ENDLESS, Pairs
from merelylate.subsets import sets_that_come


class Mates:
    """The mates among some live windows, and those that tell unlike things."""

    def __init__(self, live):
        self.live = live
        self.pairs = Pairs(live, live, True)
        self.rounds = self.pairs.layers()
        # Those whose last columns tell unlike things, the lesser window first.
        self.apart = [pair for layer in self.rounds for pair in self.pairs.unlike(layer) if pair[0] < pair[1]]

    def have_choice(self):
        """Whether two histories of one input tell unlike things at a tick."""
        for pair in self.apart:
            if self.pairs.depth(pair) == ENDLESS:
                return True
        return False

    def delay(self):
        """How many letters later, at most, two ways that tell unlike things are one; without a free choice."""
        return max([self.pairs.depth(pair) + 1 for pair in self.apart], default=0)

    def closure(self):
        """The mates that tell unlike things, and all that letters lead them to, ascending."""
        known = {pair: True for pair in self.apart}
        waiting = list(known)
        while waiting:
            for after in self.pairs.onward(waiting.pop()):
                if after not in known:
                    known[after] = True
                    waiting.append(after)
        return sorted(known)


def are_honest(mates):
    """Whether the mates are those of a mill with neither a free choice nor a paradox."""
    # The free choice is looked for first, since it asks for no sets.
    return not mates.have_choice() and sets_that_come(mates.live)[1] is None


def honest_mates(mill):
    """The mates of a checked mill; NotHonest if it has a paradox or a free choice."""
    mates = Mates(Live(mill))
    if not are_honest(mates):
        raise NotHonest("the mill has a paradox or a free choice")
    return mates
