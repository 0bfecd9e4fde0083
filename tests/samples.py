"""Mills that several tests use, wrong values, and a second, naive reckoning of what they come to."""

import itertools
import random

AHEAD = (2, ((2, 0),), (0,), ((("of", 0, 0), ("in", 1)),))
PLAIN = (2, ((2, 0),), (0,), ((("of", 0, 0), ("in", 0)),))
BACK = (2, ((2, 1),), (0,), ((("of", 0, 0), ("in", -1)),))
LONE = (2, ((2, 0),), (0,), ((("of", 0, 0), ("of", 0, 1)),))
FREE = (2, ((2, 0),), (0,), ())
BARRED = (2, ((2, 0),), (0,), (
    (("is", 0), ("times", ("in", 0), ("in", 1))), (("of", 0, 0), ("in", 0))))
# It counts up from 0 and has no value for 3: nothing goes on for ever.
STUCK = (1, ((3, 0),), (0,), ((("of", 0, 0), ("plus", ("of", 0, -1), ("is", 1))),))
# Both ways as far as can be: four columns in a window, two ticks until the first question.
WIDE = (2, ((2, 0),), (0,), (
    (("of", 0, -2), ("of", 0, 2)), (("of", 0, 0), ("in", -1))))
NAMED = (3, ((2, 1), (3, 2), (2, 0)), (0, 2), (
    (("of", 2, 0), ("same", ("in", 0), ("of", 1, -1))),
    (("of", 0, 1), ("less", ("of", 1, 0), ("in", 0)))))
SAMPLES = (AHEAD, PLAIN, BACK, LONE, FREE, BARRED, STUCK, WIDE)

# The last equation reads two ticks back, so that a window has two columns. The columns that
# can come are 24, not the one before tick 0 among them: 24 * 24 + 24 + 1 windows.
AT_601 = (3, ((3, 0), (2, 0), (2, 0)), (0,), (
    (("less", ("is", 0), ("of", 0, 0)), ("is", 1)), (("of", 0, -2), ("of", 0, -2))))


def times(*terms):
    """The product of terms, as many as a power of two."""
    half = len(terms) // 2
    return terms[0] if half == 0 else ("times", times(*terms[:half]), times(*terms[half:]))


# The same, but that one pair of columns, both with all that is greatest, cannot come.
AT_600 = AT_601[:3] + (AT_601[3] + ((("less", times(
    ("in", 0), ("of", 0, 0), ("of", 1, 0), ("of", 2, 0),
    ("in", -1), ("of", 0, -1), ("of", 1, -1), ("of", 2, -1)), ("is", 9)), ("is", 1)),),)


def at_turn(one, other):
    """A term that is 1 where the last two values of the name 2 are these."""
    return ("times", ("same", ("of", 2, -2), ("is", one)), ("same", ("of", 2, -1), ("is", other)))


# The name 2 is a sum of its last two values, in turns of eight ticks. The name 1 is any value at the
# beginning of a turn, goes on from that, and must be the letter at the last but one tick of the turn.
TURNS = (("of", 2, 0), ("rest", ("plus", ("of", 2, -1), ("of", 2, -2)), 3))
ASKED = (("pick", at_turn(0, 1), ("in", 0), ("of", 1, 0)), ("of", 1, 0))


def counting(letters):
    """A mill that is 7 ticks late, with so many letters: it tells the name 1, which is kept, and the letter."""
    return (letters, ((letters, 0), (letters, 0), (3, 1)), (0, 1), (
        (("of", 0, 0), ("in", 0)), TURNS, (("pick", at_turn(1, 1), ("of", 1, 0), ("of", 1, -1)), ("of", 1, 0)), ASKED))


# The same, but that the name 1 is 0 and 1 in turn; and that only what it is at the beginning is told.
ALTERNATING = (2, ((2, 0), (2, 0), (3, 1)), (1,), (
    (("of", 0, 0), ("is", 0)), TURNS,
    (("pick", at_turn(1, 1), ("of", 1, 0), ("same", ("of", 1, -1), ("is", 0))), ("of", 1, 0)), ASKED))
TOLD_ONCE = (2, ((2, 0), (2, 0), (3, 1)), (0,), (
    (("of", 0, 0), ("pick", at_turn(1, 1), ("of", 1, 0), ("is", 0))),) + counting(2)[3][1:])
# What is told is what another name, which is not told, was before: the same for ever, or the letter two ticks later.
KEPT_AND_TOLD = (1, ((2, 0), (2, 0)), (1,), ((("of", 0, 0), ("of", 0, 1)), (("of", 1, 0), ("of", 0, -2))))
READ_AND_TOLD = (2, ((2, 0), (2, 0)), (1,), ((("of", 0, 0), ("in", 2)), (("of", 1, 0), ("of", 0, -1))))
# A next letter and the one behind it; the latter with a paradox, or a free choice, besides.
NEXT_BUT_ONE = (2, ((2, 0),), (0,), ((("of", 0, 0), ("in", 2)),))
AHEAD_BARRED = (2, ((2, 0),), (0,), (
    (("is", 0), ("times", ("in", 0), ("in", 1))), (("of", 0, 0), ("in", 1))))
LONE_BARRED = (2, ((2, 0),), (0,), (
    (("is", 0), ("times", ("in", 0), ("in", 1))), (("of", 0, 0), ("of", 0, 1))))
# 1 can come, but there is nothing behind it.
DYING = (2, ((2, 0),), (0,), ((("of", 0, 1), ("pick", ("of", 0, 0), ("is", 2), ("is", 0))),))
# More than 2000 sets of live windows, and a free choice; the same that tells nothing but 0.
MANY_SETS = (2, ((3, 2),), (0,), ((("of", 0, -1), ("rest", (
    "plus", ("pick", ("of", 0, 0), ("of", 0, 2), ("in", 0)), ("of", 0, 1)), 3)),))
MANY_SETS_TOLD_0 = (2, ((3, 2), (2, 0)), (1,), MANY_SETS[3] + tuple(
    [(("of", 1, offset), ("is", 0)) for offset in range(3)]))
# None of these is an integer, a tuple with something in it, a column or a window.
NOTHINGS = (None, True, False, "", "0", "mill", [], [0], {}, {0: 0}, (), (None,), ((),), -1, 10 ** 30)


def nested(deep):
    """A term that is so deep."""
    term = ("is", 1)
    for _ in range(deep - 1):
        term = ("plus", ("is", 0), term)
    return term


def as_python(term):
    """A term as the text of an expression over read(offset), which gives a column."""
    kind, parts = term[0], term[1:]
    if kind == "in":
        return f"read({parts[0]})[0]"
    if kind == "of":
        return f"read({parts[1]})[{parts[0]} + 1]"
    if kind == "is":
        return str(parts[0])
    if kind == "rest":
        return f"({as_python(parts[0])} % {parts[1]})"
    forms = {"plus": "({} + {})", "times": "({} * {})", "same": "(1 if {} == {} else 0)",
             "less": "(1 if {} < {} else 0)", "pick": "[{2}, {1}][{0} != 0]"}
    return forms[kind].format(*[as_python(part) for part in parts])


def offsets_of(value):
    """All offsets in a term, or in a tuple of terms."""
    if not isinstance(value, tuple) or not value:
        return []
    if value[0] in ("in", "of"):
        return [value[-1]]
    return [offset for part in value for offset in offsets_of(part)]


class Naive:
    """What a mill comes to, reckoned from the document's words with no care for time."""

    def __init__(self, mill):
        self.letters, self.names, self.told, self.equations = mill
        found = [0] + offsets_of(self.equations)
        self.back, self.ahead = -min(found), max(found)
        self.length = max(1, self.back + self.ahead)
        self.before = (0,) + tuple(first for _, first in self.names)
        pairs = [f"({as_python(one)}) == ({as_python(two)})" for one, two in self.equations]
        self.asked = eval("lambda read: " + (" and ".join(pairs) or "True"))
        self.columns = list(itertools.product(
            range(self.letters), *[range(values) for values, _ in self.names]))

    def holds_at(self, column_at, tick):
        return self.asked(lambda offset: column_at(tick + offset))

    def holds(self, columns, tick):
        return self.holds_at(lambda at: columns[at] if at >= 0 else self.before, tick)

    def after(self, window, letter):
        phase, columns = window
        # The window's columns are those of ticks 0 and on, the next one comes behind them.
        ways = []
        for column in self.columns:
            row = columns + (column,)
            fits = phase < self.ahead or self.holds_at(lambda at: row[at], self.length - self.ahead)
            if column[0] == letter and fits:
                ways.append((min(self.ahead, phase + 1), row[-self.length:]))
        return ways

    def start(self):
        return (0, (self.before,) * self.length)

    def windows(self, most=10 ** 9):
        """All windows that can come, in rounds, until nothing is new; None if more than most."""
        found = {self.start()}
        fresh = set(found)
        while fresh:
            fresh = {after for window in fresh for letter in range(self.letters)
                     for after in self.after(window, letter)} - found
            found |= fresh
            if len(found) > most:
                return None
        return found

    def live_windows(self):
        """The windows from which as many letters lead on as there are windows, so for ever."""
        found = self.windows()
        ways = {window: {after for letter in range(self.letters)
                         for after in self.after(window, letter)} for window in found}
        going = found
        for _ in found:
            going = {window for window in found if ways[window] & going}
        return going

    def sets_through(self, letters):
        live = self.live_windows()
        now = {self.start()} & live
        sets = [tuple(sorted(now))]
        for letter in letters:
            now = {after for window in now for after in self.after(window, letter)} & live
            sets.append(tuple(sorted(now)))
        return tuple(sets)

    def is_history(self, stem, loop):
        """Whether all equations hold at the ticks of the stem and of many turns of the loop."""
        def column_at(tick):
            if tick < 0:
                return self.before
            return stem[tick] if tick < len(stem) else loop[(tick - len(stem)) % len(loop)]
        ticks = len(stem) + 3 * len(loop) + 10
        return all(self.holds_at(column_at, tick) for tick in range(ticks))


def random_term(chance, names, deep, low, high):
    """A term of any kind, at most so deep, that reads from low to high."""
    kinds = ["in", "of", "of", "is"]
    if deep > 1:
        kinds += ["plus", "times", "same", "less", "pick", "rest"]
    kind = chance.choice(kinds)
    if kind == "in":
        return (kind, chance.randint(low, high))
    if kind == "of":
        return (kind, chance.randrange(names), chance.randint(low, high))
    if kind == "is":
        return (kind, chance.randint(0, 9 if chance.random() < 0.2 else 2))
    parts = [random_term(chance, names, deep - 1, low, high)
             for _ in range({"pick": 3, "rest": 1}.get(kind, 2))]
    return (kind, *parts) if kind != "rest" else (kind, parts[0], chance.randint(1, 9))


def random_mill(chance, low=-2, high=2):
    """Any small mill."""
    count = chance.choice([1, 1, 1, 2])
    names = tuple((values, chance.randrange(values))
                  for values in [chance.choice([2, 2, 3]) for _ in range(count)])
    told = tuple(sorted(chance.sample(range(count), chance.randint(1, count))))
    equations = tuple(
        (("of", chance.randrange(count), chance.randint(low, high)),
         random_term(chance, count, chance.randint(1, 3), low, high))
        for _ in range(chance.randint(0, 3)))
    return (chance.randint(1, 2), names, told, equations)


def random_mills(seed, many, low=-2, high=2):
    """So many mills, the same ones for the same seed."""
    chance = random.Random(seed)
    return [random_mill(chance, low, high) for _ in range(many)]


def fields_of(call, *arguments):
    """The name of the error of the package that a call raises, with its fields, None for no error."""
    from merelylate.errors import MillError
    try:
        call(*arguments)
    except MillError as error:
        return (error.__class__.__name__, *vars(error).values())
    return None


def spoiled(value):
    """Values like a nested tuple, but that one thing in it is of another kind."""
    if isinstance(value, tuple):
        yield list(value)
        yield value + (None,)
        for at, part in enumerate(value):
            for other in spoiled(part):
                yield value[:at] + (other,) + value[at + 1:]
            yield value[:at] + value[at + 1:]
    elif isinstance(value, int):
        yield from (bool(value), str(value), None, (value,), -1, value + 10 ** 30)
    else:
        yield from (0, True, (), [value])


def likely_term(chance, names, deep, low, high):
    """A term of any kind that often reads a letter."""
    kinds = ["in", "in", "in", "of", "of", "is"]
    if deep > 1:
        kinds += ["plus", "plus", "times", "same", "less", "pick", "pick", "rest"]
    kind = chance.choice(kinds)
    if kind == "in":
        return (kind, chance.randint(low, high))
    if kind == "of":
        return (kind, chance.randrange(names), chance.randint(low, high))
    if kind == "is":
        return (kind, chance.randint(0, 2))
    parts = [likely_term(chance, names, deep - 1, low, high)
             for _ in range({"pick": 3, "rest": 1}.get(kind, 2))]
    return (kind, *parts) if kind != "rest" else (kind, parts[0], chance.randint(2, 3))


def likely_mill(chance):
    """A mill in which most names have an equation that says what they are: many of these are honest."""
    low, high = chance.choice([(0, 1), (-1, 1), (0, 2), (-1, 2), (-2, 1), (-1, 0), (-2, 2)])
    count = chance.choice([1, 1, 2, 2])
    names = tuple((values, chance.randrange(values))
                  for values in [chance.choice([2, 2, 2, 3]) for _ in range(count)])
    equations = []
    for name in range(count):
        if chance.random() < 0.9:
            term = likely_term(chance, count, chance.randint(1, 3), low, high)
            offset = chance.choice([0, 0, 0, 0, 1, -1])
            equations.append((("of", name, offset), ("rest", term, names[name][0])))
    if chance.random() < 0.2:
        equations.append(tuple(likely_term(chance, count, 2, low, high) for _ in range(2)))
    told = tuple(sorted(chance.sample(range(count), chance.randint(1, count))))
    return (chance.choice([1, 2, 2, 2]), names, told, tuple(equations))


def likely_mills(seed, many):
    """So many such mills, the same ones for the same seed."""
    chance = random.Random(seed)
    return [likely_mill(chance) for _ in range(many)]
