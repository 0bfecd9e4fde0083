"""Terms and equations: what they may be, how far they read, what they come to."""

from merelylate.kinds import is_tuple, is_within

MOST_DEEP = 5
MOST_EQUATIONS = 6
FARTHEST = 2

# The kinds of terms in which nothing but terms stand, and how many of them.
INNER = {"plus": 2, "times": 2, "same": 2, "less": 2, "pick": 3}


def is_term(value, names, deep=MOST_DEEP):
    """Whether a value is a term, at most so deep, of a mill with so many names."""
    # Asked first, so that a value of any depth is turned down after a few steps.
    if deep == 0:
        return False
    if not is_tuple(value, 2, 4) or not isinstance(value[0], str):
        return False
    kind = value[0]
    if kind in INNER:
        if len(value) != INNER[kind] + 1:
            return False
        return all([is_term(part, names, deep - 1) for part in value[1:]])
    if kind == "rest":
        return len(value) == 3 and is_term(value[1], names, deep - 1) and is_within(value[2], 1, 9)
    return is_single(value, names)


def is_single(value, names):
    """Whether a tuple that begins with a string is a term without terms in it."""
    if value[0] == "of":
        return len(value) == 3 and is_within(value[1], 0, names - 1) and is_offset(value[2])
    if value[0] == "in":
        return len(value) == 2 and is_offset(value[1])
    return value[0] == "is" and len(value) == 2 and is_within(value[1], 0, 9)


def is_offset(value):
    """Whether a value says how many ticks later, or earlier, a term reads."""
    return is_within(value, -FARTHEST, FARTHEST)


def are_equations(value, names):
    """Whether a value is a tuple of equations of a mill with so many names."""
    if not is_tuple(value, 0, MOST_EQUATIONS):
        return False
    return all([is_equation(pair, names) for pair in value])


def is_equation(value, names):
    """Whether a value is a pair of terms."""
    return is_tuple(value, 2, 2) and all([is_term(side, names) for side in value])


def offsets(term):
    """All offsets in a term, those in parts that a pick may pass over, too."""
    kind = term[0]
    if kind == "in" or kind == "of":
        return [term[-1]]
    if kind == "is":
        return []
    inner = term[1:2] if kind == "rest" else term[1:]
    found = []
    for part in inner:
        found.extend(offsets(part))
    return found


def looks(equations):
    """How many ticks the equations look back at most, and how many ahead."""
    back = 0
    ahead = 0
    for pair in equations:
        for offset in offsets(pair[0]) + offsets(pair[1]):
            back = max(back, -offset)
            ahead = max(ahead, offset)
    return back, ahead


def window_length(equations):
    """How many columns a window has."""
    back, ahead = looks(equations)
    return max(1, back + ahead)


def worth(term, columns, at):
    """What a term comes to at the column of number at, all that it reads being there."""
    kind = term[0]
    if kind == "of":
        return columns[at + term[2]][term[1] + 1]
    if kind == "in":
        return columns[at + term[1]][0]
    if kind == "is":
        return term[1]
    first = worth(term[1], columns, at)
    if kind == "rest":
        return first % term[2]
    if kind == "pick":
        chosen = term[2] if first != 0 else term[3]
        return worth(chosen, columns, at)
    return worth_of_two(kind, first, worth(term[2], columns, at))


def worth_of_two(kind, first, second):
    """What a sum, a product or a comparison of two numbers comes to."""
    if kind == "plus":
        return first + second
    if kind == "times":
        return first * second
    if kind == "same":
        return int(first == second)
    return int(first < second)


def first_failing(equations, columns, at):
    """The number of the first equation that doesn't hold at the column of number at, None if all do."""
    for number, pair in enumerate(equations):
        if not is_held(pair, columns, at):
            return number
    return None


def all_hold(equations, columns, at):
    """Whether all equations hold at the column of number at."""
    return first_failing(equations, columns, at) is None


def is_held(pair, columns, at):
    """Whether the two terms of an equation come to the same at the column of number at."""
    return worth(pair[0], columns, at) == worth(pair[1], columns, at)
