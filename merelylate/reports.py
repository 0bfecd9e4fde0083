"""Why something doesn't go: the equations that fail, and what makes a word a paradox."""

from merelylate.checks import check_columns, check_mill, check_word
from merelylate.errors import BadLetters
from merelylate.live import Live
from merelylate.masks import mask_of, numbers_in
from merelylate.mills import check_tick, with_before
from merelylate.terms import is_held, looks
from merelylate.ways import Steps


def broken(mill, columns, tick):
    """The numbers of the equations that don't hold at a tick of the columns from tick 0 on."""
    check_mill(mill)
    check_columns(mill, columns)
    check_tick(mill, columns, tick)
    row = with_before(mill, columns)
    at = tick + looks(mill[3])[0]
    return tuple([number for number, pair in enumerate(mill[3]) if not is_held(pair, row, at)])


def why_not(mill, letters):
    """The lines that say, for a paradox, how many windows its letters leave, and why there is no way on."""
    check_mill(mill)
    check_word(mill, letters)
    live = Live(mill)
    masks = masks_through(live, letters)
    if masks[-1] != 0:
        raise BadLetters("no paradox")
    many = masks.index(0)
    if many == 0:
        return ()
    lines = []
    for tick in range(many):
        counts = [len(numbers_in(masks[at])) for at in (tick, tick + 1)]
        lines.append(f"tick {tick}: letter {letters[tick]}: from {counts[0]} to {counts[1]}")
    steps = Steps(mill)
    for number in numbers_in(masks[many - 1]):
        window = live.windows[number]
        for column in steps.columns[letters[many - 1]]:
            lines.append(line_of(steps, window, column))
    return tuple(lines)


def masks_through(live, letters):
    """For each beginning of a word the mask of the live windows to which it leads."""
    masks = [mask_of(live.starts)]
    for letter in letters:
        masks.append(live.mask_behind(masks[-1], letter))
    return masks


def line_of(steps, window, column):
    """Why a column behind a window is no way on."""
    number = steps.failing_by(window, column)
    why = "no way on" if number is None else f"equation {number} fails"
    windows = " ".join([in_figures(one) for one in window[1]])
    return f"after {windows} then {in_figures(column)}: {why}"


def in_figures(column):
    """A column as its integers with commas between them."""
    return ",".join([str(one) for one in column])
