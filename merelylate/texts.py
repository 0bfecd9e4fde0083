"""Mills as texts: a line for the letters, for each name, for what is told, and for each equation."""

from merelylate.checks import MOST_LETTERS, MOST_NAMES, check_mill
from merelylate.errors import BadText, BadWords
from merelylate.kinds import is_tuple
from merelylate.signs import FIGURES, Reading, is_word
from merelylate.terms import MOST_EQUATIONS

# How closely a side, a sum, a product and a single side bind: 0 to 3. For each kind of terms
# its sign, how closely it binds, and how closely what stands on its left and right must.
BETWEEN = {
    "same": (" == ", 0, 1, 1),
    "less": (" < ", 0, 1, 1),
    "plus": (" + ", 1, 1, 2),
    "times": (" * ", 2, 2, 3)}


def written(mill, words):
    """The text of a mill with words for its names."""
    check_mill(mill)
    if not are_words(words, len(mill[1])):
        raise BadWords("no tuple of unlike words, one for each name")
    letters, names, told, equations = mill
    lines = [f"letters {letters}"]
    for word, (values, first) in zip(words, names):
        lines.append(f"name {word} {values} from {first}")
    lines.append(" ".join(["tells"] + [words[name] for name in told]))
    for one, other in equations:
        lines.append(written_side(one, words, 0) + " = " + written_side(other, words, 0))
    return "".join([line + "\n" for line in lines])


def are_words(value, many):
    """Whether a value is a tuple of so many unlike words."""
    if not is_tuple(value, many, many) or not all([is_word(word) for word in value]):
        return False
    return len(set(value)) == many


def written_side(term, words, least):
    """A term as it stands where it must bind at least so closely: in brackets if it doesn't."""
    kind = term[0]
    if kind not in BETWEEN:
        return written_single(term, words)
    sign, own, before, after = BETWEEN[kind]
    text = written_side(term[1], words, before) + sign + written_side(term[2], words, after)
    return f"({text})" if own < least else text


def written_single(term, words):
    """A term that needs no brackets wherever it stands."""
    kind = term[0]
    if kind == "is":
        return str(term[1])
    if kind == "in":
        return "in" + written_offset(term[1])
    if kind == "of":
        return words[term[1]] + written_offset(term[2])
    inner = term[1:2] if kind == "rest" else term[1:]
    sides = [written_side(part, words, 0) for part in inner]
    if kind == "rest":
        sides.append(str(term[2]))
    return kind + "(" + ", ".join(sides) + ")"


def written_offset(offset):
    """How many ticks later, nothing for 0."""
    if offset == 0:
        return ""
    return f"@+{offset}" if offset > 0 else f"@-{-offset}"


def read_mill(text):
    """The mill and the words of its names that a text tells."""
    lines = lines_of(text)
    letters = read_letters(lines[0])
    names = []
    words = []
    while len(names) + 1 < len(lines) and lines[len(names) + 1].startswith("name "):
        word, name = read_name(lines[len(names) + 1], words, len(names) + 1)
        words.append(word)
        names.append(name)
    at = len(names) + 1
    if at == len(lines):
        raise BadText(at)
    told = read_told(lines[at], words, at)
    equations = []
    for line in range(at + 1, len(lines)):
        if len(equations) == MOST_EQUATIONS:
            raise BadText(line)
        equations.append(Reading(lines[line], words, line).read_equation())
    return (letters, tuple(names), told, tuple(equations)), tuple(words)


def lines_of(text):
    """The lines of a text, at least one, all ended by a newline."""
    if not isinstance(text, str) or text == "":
        raise BadText(0)
    lines = text.split("\n")
    if lines[-1] != "":
        raise BadText(len(lines) - 1)
    return lines[:-1]


def read_letters(line):
    """How many letters the first line tells."""
    parts = line.split(" ")
    if len(parts) != 2 or parts[0] != "letters":
        raise BadText(0)
    return read_figure(parts[1], 1, MOST_LETTERS, 0)


def read_name(line, words, number):
    """The word, and the pair, of the name that a line tells, behind some other names' words."""
    parts = line.split(" ")
    if len(parts) != 5 or parts[0] != "name" or parts[3] != "from" or len(words) == MOST_NAMES:
        raise BadText(number)
    if not is_word(parts[1]) or parts[1] in words:
        raise BadText(number)
    values = read_figure(parts[2], 2, 3, number)
    return parts[1], (values, read_figure(parts[4], 0, values - 1, number))


def read_told(line, words, number):
    """The names that a line says are told."""
    parts = line.split(" ")
    if len(parts) < 2 or parts[0] != "tells" or not all([word in words for word in parts[1:]]):
        raise BadText(number)
    told = [words.index(word) for word in parts[1:]]
    if told != sorted(set(told)):
        raise BadText(number)
    return tuple(told)


def read_figure(part, low, high, number):
    """The number from low to high that a part of a line is."""
    figure = FIGURES.get(part)
    if figure is None or not low <= figure <= high:
        raise BadText(number)
    return figure
