"""Whether arguments are what they must be; if not, the error that says so."""

from merelylate.errors import BadColumns, BadLetters, BadMill, BadNumber, BadSplit, BadWeights, BadWindow
from merelylate.kinds import is_ascending, is_tuple, is_within
from merelylate.terms import are_equations, looks, window_length

MOST_LETTERS = 3
MOST_NAMES = 3
MOST_COLUMNS = 200
LONGEST_WORD = 60
MOST_WEIGHT = 100
MOST_TICKS = 60


def check_mill(mill):
    """Raise BadMill unless a value is a mill."""
    part = wrong_part(mill)
    if part is not None:
        raise BadMill(part)


def wrong_part(mill):
    """The first part of a value by which it is no mill, None for a mill."""
    if not is_tuple(mill, 4, 4):
        return "mill"
    letters, names, told, equations = mill
    if not is_within(letters, 1, MOST_LETTERS):
        return "letters"
    if not are_names(names):
        return "names"
    if not are_told(told, len(names)):
        return "told"
    if not are_equations(equations, len(names)):
        return "equations"
    return None


def are_names(value):
    """Whether a value is a tuple of names."""
    return is_tuple(value, 1, MOST_NAMES) and all([is_name(pair) for pair in value])


def is_name(value):
    """Whether a value is how many values a name has, and which one it has first."""
    return is_tuple(value, 2, 2) and is_within(value[0], 2, 3) and is_within(value[1], 0, value[0] - 1)


def are_told(value, names):
    """Whether a value is an ascending tuple of some of so many names."""
    return are_numbers(value, names) and len(value) > 0


def are_numbers(value, many):
    """Whether a value is an ascending tuple of numbers from 0 on, all less than so many."""
    if not is_tuple(value, 0, many) or not all([is_within(one, 0, many - 1) for one in value]):
        return False
    return is_ascending(value)


def is_letter(mill, value):
    """Whether a value is a letter of the mill."""
    return is_within(value, 0, mill[0] - 1)


def is_column(mill, value):
    """Whether a value is a column of the mill."""
    names = mill[1]
    if not is_tuple(value, len(names) + 1, len(names) + 1) or not is_letter(mill, value[0]):
        return False
    return all([is_within(one, 0, name[0] - 1) for name, one in zip(names, value[1:])])


def are_columns(mill, value):
    """Whether a value is a tuple of columns of the mill, not too many of them."""
    return is_tuple(value, 0, MOST_COLUMNS) and all([is_column(mill, column) for column in value])


def is_looping_pair(mill, value):
    """Whether a value is a stem and a loop of columns."""
    if not is_tuple(value, 2, 2):
        return False
    stem, loop = value
    if not are_columns(mill, stem) or not are_columns(mill, loop):
        return False
    return len(loop) > 0 and len(stem) + len(loop) <= MOST_COLUMNS


def is_window(mill, value):
    """Whether a value has the form of a window of the mill, come to or not."""
    if not is_tuple(value, 2, 2):
        return False
    phase, columns = value
    ahead = looks(mill[3])[1]
    if not is_within(phase, 0, ahead) or not are_columns(mill, columns):
        return False
    return len(columns) == window_length(mill[3])


def check_columns(mill, columns):
    """Raise BadColumns unless a value is a tuple of columns of the mill."""
    if not is_tuple(columns, 0, MOST_COLUMNS):
        raise BadColumns(None)
    for index, column in enumerate(columns):
        if not is_column(mill, column):
            raise BadColumns(index)


def check_window(mill, window):
    """Raise BadWindow unless a value is a window of the mill."""
    if not is_window(mill, window):
        raise BadWindow("no pair of a phase and as many columns as the mill's windows have")


def check_letter(mill, letter):
    """Raise BadLetters unless a value is a letter of the mill."""
    if not is_letter(mill, letter):
        raise BadLetters("no letter of the mill")


def check_word(mill, letters):
    """Raise BadLetters unless a value is a word of the mill's letters."""
    if not is_tuple(letters, 0, LONGEST_WORD):
        raise BadLetters("no tuple of letters, or too long a one")
    for letter in letters:
        check_letter(mill, letter)


def check_looping_word(mill, word):
    """Raise BadLetters unless a value is a stem and a loop of the mill's letters."""
    if not is_tuple(word, 2, 2) or not all([is_tuple(part, 0, LONGEST_WORD) for part in word]):
        raise BadLetters("no pair of tuples of letters, or too long ones")
    if not word[1]:
        raise BadLetters("an empty loop")
    check_word(mill, word[0] + word[1])


def check_lot(mill, lot):
    """Raise BadNumber unless a value is an ascending tuple of numbers of the mill's equations."""
    if not are_numbers(lot, len(mill[3])):
        raise BadNumber("no ascending tuple of numbers of equations")


def check_split(mill, split):
    """Raise BadSplit unless a value is a split of the mill's letters."""
    if not is_split(split, mill[0]):
        raise BadSplit("no ascending tuple of ascending tuples that have each letter once")


def is_split(value, letters):
    """Whether a value is an ascending tuple of ascending tuples, none empty, that have each letter once."""
    if not is_tuple(value, 1, letters):
        return False
    if not all([are_numbers(part, letters) and len(part) > 0 for part in value]):
        return False
    found = [letter for part in value for letter in part]
    return is_ascending([part[0] for part in value]) and sorted(found) == list(range(letters))


def check_weights(mill, weights):
    """Raise BadWeights unless a value is a tuple of a weight for each letter of the mill."""
    if not is_tuple(weights, mill[0], mill[0]) or not all([is_within(one, 1, MOST_WEIGHT) for one in weights]):
        raise BadWeights("no tuple of a weight from 1 to 100 for each letter")


def check_ticks(ticks):
    """Raise BadNumber unless a value is a number of ticks that may be asked for."""
    if not is_within(ticks, 0, MOST_TICKS):
        raise BadNumber("no number of ticks from 0 to 60")
