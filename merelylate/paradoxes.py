"""Paradoxes: words that no input with a history begins with."""

from merelylate.checks import check_mill, check_word
from merelylate.kinds import is_ascending, is_tuple
from merelylate.live import Live
from merelylate.masks import mask_of, numbers_in
from merelylate.subsets import MOST_SETS, sets_that_come


def is_paradox(mill, letters):
    """Whether no history's input begins with a word."""
    check_mill(mill)
    check_word(mill, letters)
    live = Live(mill)
    mask = mask_of(live.starts)
    for letter in letters:
        mask = live.mask_behind(mask, letter)
    return mask == 0


def paradox(mill):
    """The least of the shortest paradoxes, None without one."""
    check_mill(mill)
    return sets_that_come(Live(mill))[1]


def closed_sets(mill):
    """The unlike sets of live windows to which words lead, None with a paradox."""
    check_mill(mill)
    live = Live(mill)
    masks, least = sets_that_come(live)
    if least is not None:
        return None
    rows = sorted([numbers_in(mask) for mask in masks])
    return tuple([tuple([live.windows[number] for number in row]) for row in rows])


def shows_closed_sets(mill, value):
    """Whether a value is sets of live windows, none empty, that no letter leads out of."""
    check_mill(mill)
    live = Live(mill)
    if not is_tuple(value, 1, MOST_SETS):
        return False
    rows = [row_of(live, part) for part in value]
    if None in rows or not is_ascending(rows):
        return False
    masks = {mask_of(row): True for row in rows}
    if mask_of(live.starts) not in masks:
        return False
    for mask in masks:
        for letter in range(live.many_letters):
            if live.mask_behind(mask, letter) not in masks:
                return False
    return True


def row_of(live, value):
    """The numbers of an ascending tuple of live windows, None for any other value."""
    if not is_tuple(value, 1, len(live.windows)):
        return None
    row = [live.number(window) for window in value]
    if None in row or not is_ascending(row):
        return None
    return row
