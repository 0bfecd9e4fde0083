"""What mills come to, reckoned from the document's words over all words of some lengths."""

import itertools

from samples import Naive


class Slow(Naive):
    """Live windows, ways of words and pairs of windows, by plain steps."""

    def __init__(self, mill):
        super().__init__(mill)
        self.live = sorted(self.live_windows())
        self.steps = {(window, letter): sorted(set(self.after(window, letter)) & set(self.live))
                      for window in self.live for letter in range(self.letters)}

    def words(self, length):
        return itertools.product(range(self.letters), repeat=length)

    def beginnings(self):
        return [window for window in self.live if window == self.start()]

    def set_of(self, word):
        now = set(self.beginnings())
        for letter in word:
            now = {after for window in now for after in self.steps[window, letter]}
        return tuple(sorted(now))

    def told_in(self, window):
        return tuple(window[1][-1][name + 1] for name in self.told)

    def ways(self, word):
        """All ways of a word through live windows, each as its windows behind each letter."""
        ways = [((), window) for window in self.beginnings()]
        for letter in word:
            ways = [(way + (after,), after) for way, window in ways for after in self.steps[window, letter]]
        return [way for way, _ in ways]

    def columns_of(self, way):
        return tuple(window[1][-1] for window in way)

    def rows(self, word):
        """What is told at the ticks of a word, over all its ways, ascending."""
        return sorted({tuple(self.told_in(window) for window in way) for way in self.ways(word)})

    def all_sets(self):
        """All sets that words lead to, in rounds of words one letter longer, the empty one, too."""
        found = {self.set_of(())}
        fresh = set(found)
        while fresh:
            fresh = {self.behind(one, letter) for one in fresh for letter in range(self.letters)} - found
            found |= fresh
        return found

    def behind(self, windows, letter):
        return tuple(sorted({after for window in windows for after in self.steps[window, letter]}))

    def paradox(self):
        """The least of the shortest words that lead to no window."""
        if () not in self.all_sets():
            return None
        for length in itertools.count():
            for word in self.words(length):
                if not self.set_of(word):
                    return word

    def mates(self):
        """All pairs of live windows, alike ones and both ways round, to which one word leads."""
        found = {(window, window) for window in self.beginnings()}
        fresh = found
        while fresh:
            fresh = self.pairs_behind(fresh) - found
            found = found | fresh
        return found

    def pairs_behind(self, pairs):
        return {pair for one, other in pairs for letter in range(self.letters)
                for pair in itertools.product(self.steps[one, letter], self.steps[other, letter])}

    def apart(self):
        return {pair for pair in self.mates() if self.told_in(pair[0]) != self.told_in(pair[1])}

    def delay(self):
        """How many letters lead pairs that told unlike things to nothing, None with a free choice."""
        pairs = self.apart()
        met = set()
        delay = 0
        while pairs:
            if frozenset(pairs) in met or any(one == other for one, other in pairs):
                return None
            met.add(frozenset(pairs))
            pairs = self.pairs_behind(pairs)
            delay += 1
        return delay

    def honest(self):
        return self.delay() is not None and self.paradox() is None

    def ranks(self):
        """The pairs behind those that told unlike things, with ranks that rise until all fit."""
        if self.delay() is None:
            return None
        pairs = {pair for pair in self.apart() if pair[0] < pair[1]}
        size = -1
        while size != len(pairs):
            size = len(pairs)
            pairs |= {tuple(sorted(pair)) for pair in self.pairs_behind(pairs)}
        ranks = dict.fromkeys(pairs, 0)
        before = None
        while before != ranks:
            before = dict(ranks)
            for pair in pairs:
                after = [ranks[tuple(sorted(one))] + 1 for one in self.pairs_behind({pair})]
                ranks[pair] = max(after, default=0)
        return tuple(sorted(ranks.items()))

    def told_late(self, word, delay):
        """What an honest mill's late mill tells at the last letter of a word."""
        if len(word) <= delay:
            return None
        told, = {row[len(word) - 1 - delay] for row in self.rows(word)}
        return told


def small(mills, most=30):
    """Those of some mills that have at most so many windows."""
    return [mill for mill in mills if Naive(mill).windows(most) is not None]
