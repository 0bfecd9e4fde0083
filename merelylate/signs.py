"""The signs of an equation, and the terms that they are."""

from merelylate.errors import BadText
from merelylate.terms import is_term

MOST_SIGNS = 200
MOST_BRACKETS = 40
LONGEST = 8
SMALL = "abcdefghijklmnopqrstuvwxyz"
FIGURES = {"0": 0, "1": 1, "2": 2, "3": 3, "4": 4, "5": 5, "6": 6, "7": 7, "8": 8, "9": 9}
RESERVED = ("in", "pick", "rest")
DOUBLE = ("==", "@+", "@-")
SINGLE = "=<+*(),"
OFFSETS = {"@+": 1, "@-": -1}
COMPARED = {"==": "same", "<": "less"}


def is_word(value):
    """Whether a value may be the word of a name."""
    if not isinstance(value, str) or not 1 <= len(value) <= LONGEST or value in RESERVED:
        return False
    return value[0] in SMALL and word_end(value, 0) == len(value)


def word_end(line, at):
    """Where the small letters and figures from a place on end."""
    end = at
    while end < len(line) and (line[end] in SMALL or line[end] in FIGURES):
        end += 1
    return end


def sign_at(line, at):
    """The sign, or the space, that begins at a place; empty if none does."""
    if line[at] in SMALL:
        return line[at:word_end(line, at)]
    if line[at:at + 2] in DOUBLE:
        return line[at:at + 2]
    if line[at] in SINGLE or line[at] in FIGURES or line[at] == " ":
        return line[at]
    return ""


def signs_of(line):
    """The signs of a line with spaces between them, none if something else stands in it."""
    # The spaces stand between signs: not ahead of the first one, nor behind the last one.
    if line.startswith(" ") or line.endswith(" "):
        return []
    found = []
    at = 0
    while at < len(line):
        sign = sign_at(line, at)
        if sign == "":
            return []
        if sign != " ":
            found.append(sign)
        at += len(sign)
    return found


def brackets_within(signs):
    """How many brackets are within one another at most."""
    deep = 0
    most = 0
    for sign in signs:
        if sign == "(":
            deep += 1
        elif sign == ")":
            deep -= 1
        most = max(most, deep)
    return most


class Reading:
    """An equation of a text that is read sign by sign; BadText with the line's number if it is none."""

    def __init__(self, text, words, line):
        self.signs = signs_of(text)
        self.words = words
        self.line = line
        self.at = 0
        if len(self.signs) > MOST_SIGNS or brackets_within(self.signs) > MOST_BRACKETS:
            self.fail()

    def fail(self):
        """Say that the line is no equation."""
        raise BadText(self.line)

    def sign(self):
        """The sign that comes, empty behind the last one."""
        return self.signs[self.at] if self.at < len(self.signs) else ""

    def skip(self, sign):
        """Go on behind a sign that must come."""
        if self.sign() != sign:
            self.fail()
        self.at += 1

    def read_equation(self):
        """The pair of terms of the whole line."""
        first = self.read_side()
        self.skip("=")
        second = self.read_side()
        if self.sign() != "":
            self.fail()
        for term in (first, second):
            if not is_term(term, len(self.words)):
                self.fail()
        return first, second

    def read_side(self):
        """A sum, or two that are compared."""
        first = self.read_sum()
        kind = COMPARED.get(self.sign())
        if kind is None:
            return first
        self.at += 1
        return (kind, first, self.read_sum())

    def read_sum(self):
        """One product or more."""
        found = self.read_product()
        while self.sign() == "+":
            self.at += 1
            found = ("plus", found, self.read_product())
        return found

    def read_product(self):
        """One single side or more."""
        found = self.read_single()
        while self.sign() == "*":
            self.at += 1
            found = ("times", found, self.read_single())
        return found

    def read_single(self):
        """What stands between the signs of sums, products and comparisons."""
        sign = self.sign()
        if sign in FIGURES:
            return ("is", self.read_number(0, 9))
        if sign == "(":
            return self.read_bracketed(1)[0]
        self.at += 1
        if sign == "pick":
            return ("pick",) + self.read_bracketed(3)
        if sign == "rest":
            return self.read_rest()
        if sign == "in":
            return ("in", self.read_offset())
        if sign not in self.words:
            self.fail()
        return ("of", self.words.index(sign), self.read_offset())

    def read_bracketed(self, many):
        """So many sides with commas between them, in brackets."""
        self.skip("(")
        sides = [self.read_side()]
        while len(sides) < many:
            self.skip(",")
            sides.append(self.read_side())
        self.skip(")")
        return tuple(sides)

    def read_rest(self):
        """What stands behind the word rest."""
        self.skip("(")
        side = self.read_side()
        self.skip(",")
        number = self.read_number(1, 9)
        self.skip(")")
        return ("rest", side, number)

    def read_offset(self):
        """How many ticks later, 0 if nothing is said of it."""
        turn = OFFSETS.get(self.sign())
        if turn is None:
            return 0
        self.at += 1
        return turn * self.read_number(1, 2)

    def read_number(self, low, high):
        """A number of one figure."""
        number = FIGURES.get(self.sign())
        if number is None or not low <= number <= high:
            self.fail()
        self.at += 1
        return number
