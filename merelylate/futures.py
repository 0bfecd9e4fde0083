"""What a mill may tell for a word, over all histories whose input begins with it."""

from merelylate.checks import check_mill, check_word
from merelylate.live import Live
from merelylate.mates import honest_mates
from merelylate.tellings import Owed, shared, told_by_word

MOST_OWED = 2000


def open_tellings(mill, letters):
    """The rows of what is told at the ticks of a word, ascending."""
    check_mill(mill)
    check_word(mill, letters)
    return tuple(told_by_word(Live(mill), letters))


def sure(mill, letters):
    """For each tick of a word what is told there for sure, None if that is open, or there is no history."""
    check_mill(mill)
    check_word(mill, letters)
    return shared(told_by_word(Live(mill), letters), len(letters))


def count_parts(mill, letters):
    """How many rows of columns there are at the ticks of a word."""
    check_mill(mill)
    check_word(mill, letters)
    live = Live(mill)
    # Each row of columns is one way through live windows.
    counts = {number: 1 for number in live.starts}
    for letter in letters:
        fresh = {}
        for number, many in counts.items():
            for after in live.ways[number][letter]:
                fresh[after] = fresh.get(after, 0) + many
        counts = fresh
    return sum(list(counts.values()))


def owed_most(mill):
    """The least of the shortest words behind which most ticks are owed, and how many these are."""
    check_mill(mill)
    owed = Owed(honest_mates(mill).live, MOST_OWED)
    numbers = owed.numbers_owed()
    most = max(numbers)
    return owed.words[numbers.index(most)], most
