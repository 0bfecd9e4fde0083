"""The windows of a mill, and the ways of words through them."""

from merelylate.checks import check_letter, check_mill, check_window, check_word
from merelylate.ways import Steps, all_ways, live_ways, set_at_start, set_behind


def windows(mill):
    """The windows to which words of letters lead from the start."""
    check_mill(mill)
    return tuple(sorted(all_ways(mill)))


def next_windows(mill, window, letter):
    """The windows to which a letter leads from any window."""
    check_mill(mill)
    check_window(mill, window)
    check_letter(mill, letter)
    return Steps(mill).onward(window, letter)


def live_windows(mill):
    """The windows that can come from which some letters lead on for ever."""
    check_mill(mill)
    return tuple(sorted(live_ways(mill)))


def sets_through(mill, letters):
    """For each beginning of a word, the live windows to which it leads."""
    check_mill(mill)
    check_word(mill, letters)
    ways = live_ways(mill)
    now = set_at_start(mill, ways)
    found = [now]
    for letter in letters:
        now = set_behind(ways, now, letter)
        found.append(now)
    return tuple(found)
