"""Mills, what they tell, and whether their equations hold."""

from merelylate.checks import check_columns, check_mill, is_looping_pair
from merelylate.errors import BadTick
from merelylate.kinds import is_within
from merelylate.terms import all_hold, looks


def reach(mill):
    """How many ticks the mill's equations look back at most, and how many ahead."""
    check_mill(mill)
    return looks(mill[3])


def holds(mill, columns, tick):
    """Whether all equations hold at a tick of the columns from tick 0 on."""
    check_mill(mill)
    check_columns(mill, columns)
    check_tick(mill, columns, tick)
    return all_hold(mill[3], with_before(mill, columns), tick + looks(mill[3])[0])


def check_tick(mill, columns, tick):
    """Raise BadTick unless a value is a tick so that all that is read there is among the columns."""
    if not is_within(tick, 0, len(columns) - 1 - looks(mill[3])[1]):
        raise BadTick("no tick so that all that is read there is among the columns")


def tells(mill, columns):
    """What each of the columns tells."""
    check_mill(mill)
    check_columns(mill, columns)
    return tuple([told_by(mill, column) for column in columns])


def is_history(mill, value):
    """Whether a value is a looping pair at all ticks of which all equations hold."""
    check_mill(mill)
    if not is_looping_pair(mill, value):
        return False
    stem, loop = value
    back, ahead = looks(mill[3])
    # From the tick on at which nothing before the loop is read any more,
    # one turn of the loop reads the same as the next one.
    ticks = len(stem) + back + len(loop)
    columns = with_before(mill, unrolled(stem, loop, ticks + ahead))
    for tick in range(ticks):
        if not all_hold(mill[3], columns, tick + back):
            return False
    return True


def column_before(mill):
    """The column that stands at all ticks before tick 0."""
    return (0,) + tuple([name[1] for name in mill[1]])


def before_tick_0(mill, many):
    """The columns of the last so many ticks before tick 0."""
    return (column_before(mill),) * many


def with_before(mill, columns):
    """Columns from tick 0 on behind as many from before it as the equations look back."""
    return before_tick_0(mill, looks(mill[3])[0]) + columns


def told_by(mill, column):
    """What a column tells."""
    return tuple([column[name + 1] for name in mill[2]])


def unrolled(stem, loop, many):
    """The first so many columns of a looping pair."""
    turns = many // len(loop) + 1
    return (stem + loop * turns)[:many]
