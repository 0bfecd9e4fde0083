"""What is decided in a mill, name by name, and which of its equations decide it."""

from merelylate.checks import check_lot, check_mill
from merelylate.choices import least_delay
from merelylate.live import Live
from merelylate.mates import Mates, are_honest
from merelylate.terms import is_held
from merelylate.ways import Steps, all_ways, live_ways


def decided(mill):
    """The names that have the same value at each tick in all histories of any one input."""
    check_mill(mill)
    alone = [telling_alone(mill, name) for name in range(len(mill[1]))]
    return tuple([name for name, one in enumerate(alone) if not Mates(Live(one)).have_choice()])


def delays(mill):
    """For each name the least delay of the mill that tells it alone, None if that isn't honest."""
    check_mill(mill)
    return tuple([least_delay(telling_alone(mill, name)) for name in range(len(mill[1]))])


def telling_alone(mill, name):
    """The mill that tells one name and nothing else."""
    return mill[:2] + ((name,),) + mill[3:]


def without(mill, lot):
    """The mill without the equations of a lot of numbers."""
    check_mill(mill)
    check_lot(mill, lot)
    return lessened(mill, lot)


def lessened(mill, lot):
    """The mill without some equations."""
    return mill[:3] + (tuple([pair for number, pair in enumerate(mill[3]) if number not in lot]),)


def honest_lots(mill):
    """All lots of equations without which the mill is honest."""
    check_mill(mill)
    lots = all_lots(len(mill[3]))
    # Too many windows, of whichever lot, come ahead of too many sets of another one.
    lives = [Live(lessened(mill, lot)) for lot in lots]
    return tuple([lot for lot, live in zip(lots, lives) if are_honest(Mates(live))])


def all_lots(many):
    """All ascending tuples of numbers from 0 on that are less than so many, ascending."""
    lots = [()]
    for number in range(many):
        lots = lots + [lot + (number,) for lot in lots]
    return sorted(lots)


def needed(mill):
    """The equations that don't hold at every tick of all histories of the mill without them."""
    check_mill(mill)
    # More windows than are looked at may come of the whole mill alone.
    all_ways(mill)
    return tuple([number for number in range(len(mill[3])) if is_needed(mill, number)])


def is_needed(mill, number):
    """Whether an equation fails at a tick of a history of the mill without it."""
    rest = lessened(mill, (number,))
    live = live_ways(rest)
    steps = Steps(mill)
    shorter = Steps(rest)
    # The windows are the whole mill's, as long as the equation asks for: up to where
    # it fails they come by the whole mill, too.
    waiting = [steps.start] if shorter.start in live else []
    known = {window: True for window in waiting}
    while waiting:
        window = waiting.pop()
        for row in live[shorter.cut(window)]:
            for onward in row:
                column = onward[1][-1]
                if steps.asks(window) and not is_held(mill[3][number], window[1] + (column,), steps.asked):
                    return True
                after = steps.behind(window, column)
                if after not in known:
                    known[after] = True
                    waiting.append(after)
    return False
