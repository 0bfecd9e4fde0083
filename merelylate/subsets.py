"""The sets of live windows to which words lead, and the least paradox."""

from merelylate.errors import TooMany
from merelylate.masks import mask_of

MOST_SETS = 2000


def sets_that_come(live):
    """The masks to which words lead, by the least of their shortest words, and the least paradox.

    The paradox is None if there is none; otherwise the masks are those that come before it.
    """
    first = mask_of(live.starts)
    if first == 0:
        return [], ()
    found = [first]
    known = {first: True}
    words = [()]
    at = 0
    while at < len(found):
        for letter in range(live.many_letters):
            after = live.mask_behind(found[at], letter)
            if after == 0:
                return found, words[at] + (letter,)
            if after not in known:
                known[after] = True
                found.append(after)
                words.append(words[at] + (letter,))
                # Found in the sequence of their words, so no paradox comes before this set.
                if len(found) > MOST_SETS:
                    raise TooMany(MOST_SETS)
        at += 1
    return found, None
