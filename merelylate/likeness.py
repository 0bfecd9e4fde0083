"""Two honest mills beside each other: whether they tell the same, and the word at which they don't."""

from merelylate.masks import numbers_in
from merelylate.mates import honest_mates
from merelylate.pairs import ENDLESS, Pairs


class Couple:
    """Two honest mills, and the pairs of their live windows to which one word leads."""

    def __init__(self, one, other):
        # The first mill's errors come ahead of all those of the second one.
        first = honest_mates(one)
        second = honest_mates(other)
        self.late = max(first.delay(), second.delay())
        self.pairs = Pairs(first.live, second.live, False)
        self.rounds = self.pairs.layers()

    def apart_in(self, layer):
        """The pairs of a layer that tell unlike things to one input for ever."""
        return [pair for pair in self.pairs.unlike(layer) if self.goes_on(pair)]

    def goes_on(self, pair):
        """Whether letters lead a pair on for ever."""
        return self.pairs.depth(pair) == ENDLESS

    def tell_the_same(self):
        """Whether no input makes the mills tell unlike things."""
        return not any([self.apart_in(layer) for layer in self.rounds])

    def least_word(self):
        """The least of the shortest words at whose last letter their late mills tell unlike things."""
        for number, layer in enumerate(self.rounds):
            apart = self.apart_in(layer)
            if apart:
                return self.word_to(apart, number)
        return None

    def word_to(self, apart, number):
        """The least word that leads to some pairs of the round of a number, and on until both tell that tick."""
        lots = [{pair: True for pair in apart}]
        # A shortest way goes through the rounds one by one.
        for layer in self.rounds[:number][::-1]:
            lots.append({pair: True for pair in pairs_in(layer) if self.leads_into(pair, lots[-1])})
        word = []
        now = [(self.pairs.one.starts[0], self.pairs.other.starts[0])]
        for lot in lots[::-1]:
            letter, now = self.least_step(now, lambda after: after in lot)
            word.append(letter)
        # No word is a paradox, so that what both tell behind the last letter some endless input shows, too.
        for _ in range(self.late):
            letter, now = self.least_step(now, lambda after: self.goes_on(after))
            word.append(letter)
        return tuple(word)

    def leads_into(self, pair, lot):
        """Whether a letter leads a pair to one of a lot."""
        for letter in range(self.pairs.one.many_letters):
            for after in self.pairs.afters(pair, letter):
                if after in lot:
                    return True
        return False

    def least_step(self, now, fits):
        """The least letter that leads pairs to some that fit, and all those."""
        for letter in range(self.pairs.one.many_letters):
            found = {after: True for pair in now for after in self.pairs.afters(pair, letter) if fits(after)}
            if found:
                return letter, list(found)
        return None


def pairs_in(layer):
    """The pairs of a layer."""
    return [(first, second) for first, mask in layer.items() for second in numbers_in(mask)]
