"""Mills put together: one behind the other, beside each other, in a ring, and turned round."""

from merelylate.checks import MOST_NAMES, check_mill
from merelylate.errors import NotAlike, TooMany
from merelylate.live import Live
from merelylate.mates import Mates
from merelylate.terms import INNER, MOST_EQUATIONS


def behind(one, other):
    """The mill in which what one tells is the input of the other."""
    check_mill(one)
    check_mill(other)
    if not feeds(one, other[0]):
        raise NotAlike("the one doesn't feed the other's letters")
    many = len(one[1])
    read = moved_equations(other[3], many, ("of", one[2][0]))
    return joined(one[0], one[1] + other[1], moved_names(other[2], many), one[3] + read)


def beside(one, other):
    """The mill of both with one input."""
    check_mill(one)
    check_mill(other)
    if one[0] != other[0]:
        raise NotAlike("not as many letters")
    many = len(one[1])
    read = moved_equations(other[3], many, ("in",))
    return joined(one[0], one[1] + other[1], one[2] + moved_names(other[2], many), one[3] + read)


def ringed(mill):
    """The mill whose input is what it tells."""
    check_mill(mill)
    if not feeds(mill, mill[0]):
        raise NotAlike("the mill doesn't feed its own letters")
    return (1, mill[1], mill[2], moved_equations(mill[3], 0, ("of", mill[2][0])))


def turned(mill):
    """The mill that reads what the mill tells, and tells what it reads."""
    check_mill(mill)
    if not is_turnable(mill):
        raise NotAlike("not one told name, with 0 first, and two letters or more")
    letters, names, told, equations = mill
    name = told[0]
    read = names[:name] + ((letters, 0),) + names[name + 1:]
    return (names[name][0], read, told, tuple([tuple([exchanged(side, name) for side in pair]) for pair in equations]))


def reads_back(mill):
    """Whether no two histories of unlike inputs tell the same at every tick."""
    # Of the mill turned round that is a free choice: the same input, and unlike things told.
    return not Mates(Live(turned(mill))).have_choice()


def feeds(mill, letters):
    """Whether a mill feeds so many letters."""
    if len(mill[2]) != 1:
        return False
    values, first = mill[1][mill[2][0]]
    return values <= letters and first == 0


def is_turnable(mill):
    """Whether a mill can be turned round."""
    return len(mill[2]) == 1 and mill[1][mill[2][0]][1] == 0 and mill[0] >= 2


def joined(letters, names, told, equations):
    """The mill of two mills' parts."""
    if len(names) > MOST_NAMES:
        raise TooMany(MOST_NAMES)
    if len(equations) > MOST_EQUATIONS:
        raise TooMany(MOST_EQUATIONS)
    return (letters, names, told, equations)


def moved_names(told, many):
    """The numbers of names, numbered on behind so many."""
    return tuple([name + many for name in told])


def moved_equations(equations, many, source):
    """Equations with their names numbered on behind so many, that read letters from a source."""
    return tuple([tuple([moved(side, many, source) for side in pair]) for pair in equations])


def moved(term, many, source):
    """A term with its names numbered on behind so many, that reads letters from a source."""
    kind = term[0]
    if kind == "in":
        return source + term[1:]
    if kind == "of":
        return ("of", term[1] + many, term[2])
    return (kind,) + tuple([moved(part, many, source) for part in parts_of(term)]) + rest_of(term)


def exchanged(term, name):
    """A term that reads the letter where it read a name, and the name where it read the letter."""
    kind = term[0]
    if kind == "in":
        return ("of", name, term[1])
    if kind == "of":
        return ("in", term[2]) if term[1] == name else term
    return (kind,) + tuple([exchanged(part, name) for part in parts_of(term)]) + rest_of(term)


def parts_of(term):
    """The terms in a term that is no letter and no name."""
    if term[0] in INNER:
        return term[1:]
    return term[1:2] if term[0] == "rest" else ()


def rest_of(term):
    """What stands behind the terms in a term that is no letter and no name."""
    if term[0] in INNER:
        return ()
    return term[2:] if term[0] == "rest" else term[1:]
