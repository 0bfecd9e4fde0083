"""The sets of live windows to which words lead, and the least paradox."""

from merelylate.errors import TooMany
from merelylate.masks import mask_of, numbers_in

MOST_SETS = 2000


def sets_that_come(live):
    """The masks to which words lead, by the least of their shortest words, and the least paradox.

    The paradox is None if there is none; otherwise the masks are those that come before it.
    """
    first = mask_of(live.starts)
    if first == 0:
        return [], ()
    found = [first]
    known = {first: True}
    words = [()]
    at = 0
    while at < len(found):
        for letter in range(live.many_letters):
            after = live.mask_behind(found[at], letter)
            if after == 0:
                return found, words[at] + (letter,)
            if after not in known:
                known[after] = True
                found.append(after)
                words.append(words[at] + (letter,))
                # Found in the sequence of their words, so no paradox comes before this set.
                if len(found) > MOST_SETS:
                    raise TooMany(MOST_SETS)
        at += 1
    return found, None


class Subsets:
    """All sets of live windows to which words lead, the empty one, too, and how letters lead from one to another."""

    def __init__(self, live, most):
        self.live = live
        # The masks, as they are first come to, and for each one the numbers of those that letters lead to.
        self.masks = [mask_of(live.starts)]
        self.onto = []
        self.find_sets(most)

    def find_sets(self, most):
        """Find all sets, so many of them at most that are not empty."""
        numbers = {self.masks[0]: 0}
        while len(self.onto) < len(self.masks):
            row = []
            for letter in range(self.live.many_letters):
                after = self.live.mask_behind(self.masks[len(self.onto)], letter)
                if after not in numbers:
                    numbers[after] = len(self.masks)
                    self.masks.append(after)
                row.append(numbers[after])
            # The empty set, if it has come, is none of those.
            if len(self.masks) - int(0 in numbers) > most:
                raise TooMany(most)
            self.onto.append(row)

    def is_lost(self, number):
        """Whether the set of a number is empty."""
        return self.masks[number] == 0

    def windows_in(self, number):
        """The ascending tuple of the live windows of a set."""
        return tuple([self.live.windows[one] for one in numbers_in(self.masks[number])])
