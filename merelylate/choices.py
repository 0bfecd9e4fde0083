"""Free choices and honest mills: how many ticks a mill is late at least."""

from math import lcm

from merelylate.checks import MOST_COLUMNS, are_columns, check_mill
from merelylate.errors import TooMany
from merelylate.kinds import is_tuple, is_within
from merelylate.lassos import shortened, shortest_lasso
from merelylate.live import Live
from merelylate.mates import Mates, are_honest, honest_mates
from merelylate.mills import is_history, told_by, unrolled
from merelylate.stories import latest_story, some_lasso

MOST_RANK = 200000


def free_choice(mill):
    """Two histories of one input that tell unlike things, None without any."""
    check_mill(mill)
    mates = Mates(Live(mill))
    lasso = some_lasso(mates)
    if lasso is None:
        return None
    sides = sides_of(mates.live, lasso)
    if not are_short(sides):
        sides = sides_of(mates.live, shortest_lasso(mates, lasso))
    if not are_short(sides):
        raise TooMany(MOST_COLUMNS)
    return sides


def sides_of(live, lasso):
    """The two looping pairs of columns that a stem and a loop of pairs are."""
    sides = []
    for side in range(2):
        stem, loop = [[live.columns[pair[side]] for pair in part] for part in lasso]
        sides.append(shortened(stem, loop))
    return tuple(sides)


def are_short(sides):
    """Whether looping pairs have no more columns than they may have."""
    return all([len(stem) + len(loop) <= MOST_COLUMNS for stem, loop in sides])


def shows_free_choice(mill, value):
    """Whether a value is what free_choice may return."""
    check_mill(mill)
    live = Live(mill)
    if value is None:
        return not Mates(live).have_choice()
    if not is_tuple(value, 2, 2) or not all([is_history(mill, side) for side in value]):
        return False
    return are_choice(mill, value[0], value[1])


def are_choice(mill, one, other):
    """Whether two histories have the same letters and don't tell the same."""
    # From there on both go on as they did so many ticks before.
    many = max(len(one[0]), len(other[0])) + lcm(len(one[1]), len(other[1]))
    ones = unrolled(one[0], one[1], many)
    others = unrolled(other[0], other[1], many)
    if letters_of(ones) != letters_of(others):
        return False
    return [told_by(mill, column) for column in ones] != [told_by(mill, column) for column in others]


def letters_of(columns):
    """The letters of some columns."""
    return [column[0] for column in columns]


def ranks(mill):
    """The fewest pairs, with least ranks, that show that there is no free choice; None with one."""
    check_mill(mill)
    mates = Mates(Live(mill))
    if mates.have_choice():
        return None
    found = []
    for first, second in mates.closure():
        pair = (mates.live.windows[first], mates.live.windows[second])
        found.append((pair, mates.pairs.depth((first, second))))
    return tuple(found)


def shows_ranks(mill, value):
    """Whether a value is pairs of live windows with ranks that show that there is no free choice."""
    check_mill(mill)
    mates = Mates(Live(mill))
    given = ranks_given(mates.live, value)
    if given is None or not all([pair in given for pair in mates.apart]):
        return False
    for pair, rank in given.items():
        for after in mates.pairs.onward(pair):
            if after not in given or given[after] >= rank:
                return False
    return True


def ranks_given(live, value):
    """A dict of ascending pairs of live windows with their ranks; None for a value of another form."""
    if not isinstance(value, tuple):
        return None
    given = {}
    last = (-1, -1)
    for part in value:
        if not is_tuple(part, 2, 2) or not is_tuple(part[0], 2, 2) or not is_within(part[1], 0, MOST_RANK):
            return None
        first = live.number(part[0][0])
        second = live.number(part[0][1])
        if first is None or second is None or first >= second or (first, second) <= last:
            return None
        last = (first, second)
        given[last] = part[1]
    return given


def is_honest(mill):
    """Whether the mill has neither a free choice nor a paradox."""
    check_mill(mill)
    return are_honest(Mates(Live(mill)))


def least_delay(mill):
    """How many ticks late an honest mill can tell all at the earliest, None if it isn't honest."""
    check_mill(mill)
    mates = Mates(Live(mill))
    return mates.delay() if are_honest(mates) else None


def bound(mill):
    """As many ticks as the least delay is at most: half of q (q - 1) for q live windows."""
    check_mill(mill)
    many = len(Live(mill).windows)
    return many * (many - 1) // 2


def two_stories(mill):
    """Two beginnings of histories that show that less than the least delay isn't enough; None if it is 0."""
    check_mill(mill)
    mates = honest_mates(mill)
    delay = mates.delay()
    if delay == 0:
        return None
    way = latest_story(mates, delay)
    if len(way) > MOST_COLUMNS:
        raise TooMany(MOST_COLUMNS)
    columns = mates.live.columns
    return tuple([tuple([columns[pair[side]] for pair in way]) for side in range(2)])


def shows_two_stories(mill, value):
    """Whether a value is what two_stories may return."""
    check_mill(mill)
    mates = honest_mates(mill)
    delay = mates.delay()
    if delay == 0:
        return value is None
    if not is_tuple(value, 2, 2) or not all([are_columns(mill, side) for side in value]):
        return False
    one, other = value
    if len(one) < delay or letters_of(one) != letters_of(other):
        return False
    if told_by(mill, one[-delay]) == told_by(mill, other[-delay]):
        return False
    return mates.live.begins_history(one) and mates.live.begins_history(other)
