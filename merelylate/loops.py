"""Inputs that loop: their histories, and what the mill may say for ever if the letter stays."""

from merelylate.checks import MOST_COLUMNS, check_letter, check_looping_word, check_mill
from merelylate.errors import TooMany
from merelylate.lassos import shortened
from merelylate.live import Live
from merelylate.mills import is_history
from merelylate.terms import all_hold, looks
from merelylate.tracks import Track, some_history, telling_along
from merelylate.ways import columns_with

ENDLESS = "endless"


def has_history(mill, word):
    """Whether a looping word has a history."""
    return track_of(mill, word).has_any()


def history_of(mill, word):
    """A looping pair that is a history of a looping word, None without one."""
    track = track_of(mill, word)
    if not track.has_any():
        return None
    found = some_history(track, MOST_COLUMNS)
    if found is None:
        raise TooMany(MOST_COLUMNS)
    return found


def shows_history(mill, word, value):
    """Whether a value is what history_of may return."""
    track = track_of(mill, word)
    if value is None:
        return not track.has_any()
    if not is_history(mill, value):
        return False
    stem, loop = [[column[0] for column in part] for part in value]
    # The same input for ever has the same shortest loop and stem.
    return shortened(stem, loop) == track.word


def how_many(mill, word):
    """How many unlike histories a looping word has, a number or "endless"."""
    track = track_of(mill, word)
    if not track.has_any():
        return 0
    many = track.how_many()
    return ENDLESS if many is None else many


def telling_of(mill, word):
    """What all histories of a looping word tell, as a stem and a loop; None if that is not one thing."""
    track = track_of(mill, word)
    return telling_along(track) if track.has_any() else None


def track_of(mill, word):
    """The track of a looping word, both arguments being checked."""
    check_mill(mill)
    check_looping_word(mill, word)
    return Track(Live(mill), word)


def steady(mill, letter):
    """The columns with a letter that, standing at all ticks and ahead of them, make all equations hold."""
    check_mill(mill)
    check_letter(mill, letter)
    back, ahead = looks(mill[3])
    columns = columns_with(mill, letter)
    return tuple([column for column in columns if all_hold(mill[3], (column,) * (back + ahead + 1), back)])
