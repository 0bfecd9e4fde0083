"""Pairs of live windows, of one mill or of two, to which one word leads."""

from merelylate.masks import numbers_in

# The depth of a pair from which letters lead on for ever.
ENDLESS = -1


class Pairs:
    """The pairs of a live window of one mill and one of another, and how letters lead them on."""

    def __init__(self, one, other, mirrored):
        self.one = one
        self.other = other
        # Of one mill with itself, a pair and the same the other way round are one.
        self.mirrored = mirrored
        self.depths = {}
        if mirrored:
            self.depths = {(number, number): ENDLESS for number in range(len(one.windows))}

    def layers(self):
        """The pairs that words of 1, 2 and more letters are the first to lead to.

        Each layer is a dict: for windows of the one mill the mask of those of the other.
        """
        arrived = [0] * len(self.one.windows)
        layer = {}
        if self.one.starts and self.other.starts:
            layer[self.one.starts[0]] = 1 << self.other.starts[0]
        found = []
        while layer:
            fresh = {}
            for first, after in self.led_on(layer):
                mask = after & ~arrived[first]
                if mask:
                    arrived[first] |= mask
                    fresh[first] = fresh.get(first, 0) | mask
            layer = fresh
            if fresh:
                found.append(fresh)
        return found

    def led_on(self, layer):
        """To which pairs a letter leads those of a layer: windows of the one with masks of the other."""
        found = []
        for first, mask in layer.items():
            seconds = numbers_in(mask)
            for letter in range(self.one.many_letters):
                after = 0
                for second in seconds:
                    after |= self.other.masks[second][letter]
                if after:
                    found.extend([(onward, after) for onward in self.one.ways[first][letter]])
        return found

    def unlike(self, layer):
        """Those pairs of a layer whose last columns tell unlike things, in a list."""
        found = []
        for first, mask in layer.items():
            rest = mask & ~self.other.telling.get(self.one.told[first], 0)
            found.extend([(first, second) for second in numbers_in(rest)])
        return found

    def leads(self, pair, letter, after):
        """Whether a letter leads a pair to another one."""
        first = self.one.masks[pair[0]][letter] >> after[0] & 1
        return first == 1 and self.other.masks[pair[1]][letter] >> after[1] & 1 == 1

    def afters(self, pair, letter):
        """The pairs to which a letter leads a pair."""
        seconds = self.other.ways[pair[1]][letter]
        return [(first, second) for first in self.one.ways[pair[0]][letter] for second in seconds]

    def onward(self, pair):
        """The pairs to which letters lead a pair, each one just one way round."""
        found = []
        for letter in range(self.one.many_letters):
            if self.mirrored:
                both = self.one.masks[pair[0]][letter] & self.one.masks[pair[1]][letter]
                # Where the two ways meet nothing else matters: from there they go on for ever.
                if both:
                    return [(number, number) for number in numbers_in(both)]
            found.extend(self.afters(pair, letter))
        return [self.one_way_round(after) for after in found]

    def one_way_round(self, pair):
        """The pair by which a pair is known."""
        if self.mirrored and pair[0] > pair[1]:
            return (pair[1], pair[0])
        return pair

    def depth(self, pair):
        """How many letters at most lead a pair on, ENDLESS if some do for ever."""
        known = self.one_way_round(pair)
        if known not in self.depths:
            self.measure(known)
        return self.depths[known]

    def measure(self, pair):
        """Find the depth of a pair, and of those on the way there."""
        path = [pair]
        trail = {pair: True}
        rests = [self.onward(pair)]
        best = [0]
        while path:
            if not rests[-1]:
                done = path.pop()
                rests.pop()
                del trail[done]
                self.depths[done] = best.pop()
                if path:
                    best[-1] = max(best[-1], self.depths[done] + 1)
                continue
            after = rests[-1].pop()
            if after in trail or self.depths.get(after) == ENDLESS:
                # All on the path lead to this pair, and so on for ever.
                for waiting in path:
                    self.depths[waiting] = ENDLESS
                return
            if after in self.depths:
                best[-1] = max(best[-1], self.depths[after] + 1)
            else:
                path.append(after)
                trail[after] = True
                rests.append(self.onward(after))
                best.append(0)
