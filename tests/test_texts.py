"""Point 40: mills as texts."""

import itertools
import unittest

import samples
from merelylate.texts import read_mill, written

X, Y, Z, IN = ("of", 0, 0), ("of", 1, 0), ("of", 2, 0), ("in", 0)
NAMES = ((2, 0), (3, 1), (2, 1))
WORDS = ("x", "y1", "z")
HEAD = "letters 2\nname x 2 from 0\nname y1 3 from 1\nname z 2 from 1\ntells x z\n"


def mill_of(*equations):
    return (2, NAMES, (0, 2), tuple(equations))


def plus(one, other):
    return ("plus", one, other)


def times(one, other):
    return ("times", one, other)


def same(one, other):
    return ("same", one, other)


def less(one, other):
    return ("less", one, other)


# Sides, and the terms that they are.
SIDES = (
    ("in", IN), ("x", X), ("0", ("is", 0)), ("9", ("is", 9)),
    ("in@+1", ("in", 1)), ("in@+2", ("in", 2)), ("in@-1", ("in", -1)), ("in@-2", ("in", -2)),
    ("y1@+1", ("of", 1, 1)), ("y1@+2", ("of", 1, 2)), ("z@-1", ("of", 2, -1)), ("z@-2", ("of", 2, -2)),
    ("x + y1 + z", plus(plus(X, Y), Z)), ("x + (y1 + z)", plus(X, plus(Y, Z))),
    ("x * y1 * z", times(times(X, Y), Z)), ("x * (y1 * z)", times(X, times(Y, Z))),
    ("x * y1 + z", plus(times(X, Y), Z)), ("x + y1 * z", plus(X, times(Y, Z))),
    ("(x + y1) * z", times(plus(X, Y), Z)), ("x * (y1 + z)", times(X, plus(Y, Z))),
    ("x == y1", same(X, Y)), ("x < y1", less(X, Y)), ("x + y1 == y1 * z", same(plus(X, Y), times(Y, Z))),
    ("(x == y1) == z", same(same(X, Y), Z)), ("x == (y1 == z)", same(X, same(Y, Z))),
    ("(x < y1) < z", less(less(X, Y), Z)), ("x < (y1 == z)", less(X, same(Y, Z))),
    ("(x < y1) + z", plus(less(X, Y), Z)), ("x + (y1 == z)", plus(X, same(Y, Z))),
    ("(x == y1) * z", times(same(X, Y), Z)), ("x * (y1 < z)", times(X, less(Y, Z))),
    ("pick(x, y1, z)", ("pick", X, Y, Z)), ("rest(x, 3)", ("rest", X, 3)),
    ("pick(x == y1, y1 + z, z * x)", ("pick", same(X, Y), plus(Y, Z), times(Z, X))),
    ("rest(x < y1, 9)", ("rest", less(X, Y), 9)), ("rest(x + y1, 1)", ("rest", plus(X, Y), 1)),
    ("pick(x, y1, z) * rest(x, 2) + 1", plus(times(("pick", X, Y, Z), ("rest", X, 2)), ("is", 1))),
    ("pick(pick(x, x, x), rest(y1, 2), (x + y1) * z)",
     ("pick", ("pick", X, X, X), ("rest", Y, 2), times(plus(X, Y), Z))),
    ("x + y1 * z + in@-1 == rest(in, 2)",
     same(plus(plus(X, times(Y, Z)), ("in", -1)), ("rest", IN, 2))))


class WrittenTest(unittest.TestCase):

    def test_sides(self):
        for text, term in SIDES:
            self.assertEqual(written(mill_of((term, X)), WORDS), HEAD + text + " = x\n")
            self.assertEqual(written(mill_of((X, term)), WORDS), HEAD + "x = " + text + "\n")

    def test_lines(self):
        self.assertEqual(written((1, ((2, 1),), (0,), ()), ("a",)), "letters 1\nname a 2 from 1\ntells a\n")
        self.assertEqual(written((3, ((3, 2), (2, 0)), (0, 1), ((X, Y),) * 6), ("b2", "a")), (
            "letters 3\nname b2 3 from 2\nname a 2 from 0\ntells b2 a\n" + "b2 = a\n" * 6))
        self.assertEqual(written(mill_of(), WORDS), HEAD)

    def test_words(self):
        mill = (2, ((2, 0),), (0,), ())
        for word in ("a", "z", "a1", "a0000000", "abcdefgh", "in1", "inn", "picks", "rest0", "letters", "name",
                     "tells", "from", "of", "is"):
            self.assertEqual(written(mill, (word,)), f"letters 2\nname {word} 2 from 0\ntells {word}\n")
        for word in ("in", "pick", "rest", "", "A", "aB", "1a", "0", "_", "a_b", "a b", " a", "a ", "a\n", "abcdefghi",
                     "a" * 1000, "\u00e4", "a\u00e4", "a\u0661", "\u00aa", "a-", "a\t", None, True, 0, ("a",), ["a"], {}):
            self.assertEqual(samples.fields_of(written, mill, (word,)), ("BadWords",), word)

    def test_as_many_words_as_names(self):
        two = (2, ((2, 0), (2, 0)), (0,), ())
        self.assertIsNone(samples.fields_of(written, two, ("a", "b")))
        for words in (("a",), ("a", "b", "c"), ("a", "a"), (), ("a", None), (None, "a"), ["a", "b"], "ab",
                      ("a", "in"), {"a": 0, "b": 1}, None, 7, True, (("a", "b"),), ("a", ["b"]), ([], [])):
            self.assertEqual(samples.fields_of(written, two, words), ("BadWords",), words)
        for words in samples.NOTHINGS + (samples.nested(30000),):
            self.assertEqual(samples.fields_of(written, two, words), ("BadWords",), words)

    def test_sequence_of_errors(self):
        self.assertEqual(samples.fields_of(written, None, None), ("BadMill", "mill"))
        self.assertEqual(samples.fields_of(written, (4, (), (), ()), ("in",)), ("BadMill", "letters"))
        # No windows are counted.
        self.assertIsNone(samples.fields_of(written, samples.AT_601, ("a", "b", "c")))

    def test_read_again(self):
        mills = samples.random_mills(101, 600) + samples.likely_mills(102, 600) + list(samples.SAMPLES) + [
            samples.NAMED, samples.AT_600, samples.AT_601, samples.counting(3)]
        for mill in mills:
            words = ("q", "a7", "tells")[:len(mill[1])]
            self.assertEqual(read_mill(written(mill, words)), (mill, words))

    def test_brackets_just_where_needed(self):
        # Without any two that belong together, another mill is read, or none.
        mills = samples.random_mills(103, 250) + [mill_of((term, X)) for _, term in SIDES]
        seen = 0
        for mill in mills:
            words = WORDS[:len(mill[1])]
            text = written(mill, words)
            for first, last in bracketed(text):
                if text[first - 1] not in "kt" or text[first - 5:first] not in ("=pick", " pick", "(pick", " rest", "(rest"):
                    shorter = text[:first] + text[first + 1:last] + text[last + 1:]
                    try:
                        self.assertNotEqual(read_mill(shorter), (mill, words), text)
                    except ValueError as error:
                        self.assertIn("line", vars(error))
                    seen += 1
        self.assertGreater(seen, 40)


def bracketed(text):
    """The places of all pairs of round brackets."""
    open_ones, found = [], []
    for at, sign in enumerate(text):
        if sign == "(":
            open_ones.append(at)
        elif sign == ")":
            found.append((open_ones.pop(), at))
    return found


class ReadTest(unittest.TestCase):

    def wrong(self, text):
        """The line that is wrong."""
        error = samples.fields_of(read_mill, text)
        self.assertIsNotNone(error, text)
        self.assertEqual(error[0], "BadText")
        return error[1]

    def wrong_equation(self, line):
        self.assertEqual(self.wrong(HEAD + line + "\n"), 5, line)
        self.assertEqual(self.wrong(HEAD + "x = in\n" + line + "\nx ==\n"), 6, line)

    def read_side(self, side):
        mill, words = read_mill(HEAD + side + " = 1\n")
        self.assertEqual(words, WORDS)
        self.assertEqual(mill[:3], mill_of()[:3])
        (term, one), = mill[3]
        self.assertEqual(one, ("is", 1))
        return term

    def test_a_whole_text(self):
        self.assertEqual(read_mill(HEAD), (mill_of(), WORDS))
        self.assertEqual(read_mill("letters 1\nname in2 3 from 2\ntells in2\nin2 = in\nin = in2@-2\n"), (
            (1, ((3, 2),), (0,), ((X, IN), (IN, ("of", 0, -2)))), ("in2",)))

    def test_sides_with_any_spaces(self):
        for text, term in SIDES:
            signs = text.replace("@+", " @+ ").replace("@-", " @- ")
            for sign in "(),":
                signs = signs.replace(sign, f" {sign} ")
            signs = signs.split()
            for gap in ("", " ", "   "):
                self.assertEqual(self.read_side(gap.join(signs)), term)
                self.assertEqual(read_mill(HEAD + gap.join(["1", "="] + signs) + "\n")[0][3], ((("is", 1), term),))
            self.assertEqual(self.read_side("(" + text + ")"), term)
            self.assertEqual(self.read_side("(( " + text + ") )"), term)

    def test_needless_brackets(self):
        self.assertEqual(self.read_side("(x) + ((y1)) * (((z)))"), plus(X, times(Y, Z)))
        self.assertEqual(self.read_side("(x + y1) + z"), plus(plus(X, Y), Z))
        self.assertEqual(self.read_side("pick((x), (y1 == z), (0))"), ("pick", X, same(Y, Z), ("is", 0)))
        self.assertEqual(self.read_side("rest((x), 2)"), ("rest", X, 2))

    def test_no_sides(self):
        for side in ("", "(", ")", "()", "(x", "x)", "((x)", "x +", "+ x", "x + + y1", "x y1", "x *", "* x", "x < ",
                     "< x", "x == y1 == z", "x < y1 < z", "x == y1 < z", "x <= y1", "x > y1", "x != y1", "x - y1",
                     "x / y1", "-1", "12", "1 2", "x 2", "2 x", "2x", "q", "X", "y", "xy", "x@", "x@1", "x@+", "x@-",
                     "x@+0", "x@+3", "x@-0", "x@-3", "x@+12", "x@ +1", "x@+ +1", "x@+x", "x@+in", "in@", "in@+3",
                     "in@+1@+1", "1@+1", "(x)@+1", "pick(x, y1, z)@+1", "pick", "rest", "pick()", "rest()", "pick(x)",
                     "pick(x, y1)", "pick(x, y1, z, x)", "pick(x y1 z)", "pick(x, y1, z", "pick x, y1, z", "pick(x,, z)",
                     "pick(, y1, z)", "rest(x)", "rest(x, 0)", "rest(x, 10)", "rest(x, y1)", "rest(x, (2))",
                     "rest(x, 2, 2)", "rest(2)", "rest(x 2)", "rest(x, -1)", "rest(x, 1 + 1)", "(x, y1)", "x, y1",
                     "x = y1", "x ; y1", "x.", "x\t", "\tx", "x\t+ y1", "x\u00a0+ y1", "x\r", "x\x0b+ y1", "x\x00",
                     "\u00e4", "x + \u0661", "\u0661", "\u00b2", "x\u00b2", "\uff11", "abcdefghi", "x@+\u0661", '"x"',
                     "is 1", "#x", "x # y1", "x\\", "picks(x, y1, z)", "rests(x, 2)", "pick@+1(x, y1, z)",
                     "in(x)", "x(y1)", "[x]", "{x}"):
            self.wrong_equation(side + " = x")
            self.wrong_equation("x = " + side)

    def test_no_equations(self):
        for line in ("", "=", "x", "x =", "= x", "x = = y1", "x === y1", "x == y1", "x = y1 = z", "x = y1,", "x ==",
                     "(x = y1)", "(x) = (y1", "x = y1)", "x < y1", "letters 2", "name q 2 from 0", "tells x",
                     "tells = in", "x = y1 x", "\tx = y1", "x = y1\t", "x = y1\r", " ", "   ", "x\u2003= y1"):
            self.wrong_equation(line)

    def test_spaces_stand_between_signs_only(self):
        for line in (" x = y1", "x = y1 ", "  x = y1  "):
            self.wrong_equation(line)
        self.assertEqual(read_mill(HEAD + "x  =  y1\n")[0], mill_of((X, Y)))

    def test_names_that_are_words_of_other_lines(self):
        text = "letters 2\nname name 2 from 0\nname tells 2 from 0\nname letters 2 from 0\ntells tells letters\n"
        mill, words = read_mill(text + "name = tells\nletters = from1\n".replace("from1", "in"))
        self.assertEqual((mill, words), (
            (2, ((2, 0),) * 3, (1, 2), ((X, Y), (Z, IN))), ("name", "tells", "letters")))

    def test_deep_terms(self):
        self.assertEqual(self.read_side("x + x + x + x + y1"), plus(plus(plus(plus(X, X), X), X), Y))
        self.wrong_equation("x + x + x + x + x + x = x")
        self.wrong_equation("x = x * (x * (x * (x * (x * x))))")
        self.assertEqual(self.read_side("x * (x * (x * (x * x)))"), times(X, times(X, times(X, times(X, X)))))
        for deep in (5, 6):
            for start, end in (("rest(", ", 2)"), ("pick(x, ", ", 0)"), ("pick(", ", 0, 0)"), ("(0 == ", ")")):
                line = "x = " + start * (deep - 1) + "x" + end * (deep - 1)
                if deep == 5:
                    self.assertEqual(len(read_mill(HEAD + line + "\n")[0][3]), 1)
                else:
                    self.wrong_equation(line)
        # The brackets make no term deeper.
        self.assertEqual(self.read_side("(" * 40 + "x" + ")" * 40), X)

    def test_brackets_within_one_another(self):
        self.wrong_equation("x = " + "(" * 41 + "x" + ")" * 41)
        self.wrong_equation("(" * 41 + "x" + ")" * 41 + " = x")
        self.assertEqual(self.read_side("(" * 39 + "x + (x) + (x)" + ")" * 39), plus(plus(X, X), X))
        # Those of a pick and a rest are brackets, too.
        for inner in ("pick(x, x, x)", "rest(x, 2)"):
            self.read_side("(" * 39 + inner + ")" * 39)
            self.wrong_equation("(" * 40 + inner + ")" * 40 + " = x")
        # Brackets that are closed again count no more.
        self.wrong_equation("x = (x) + (x) + " + "(" * 41 + "x" + ")" * 41)
        self.assertEqual(self.read_side("(x) + ((x)) + " + "(" * 40 + "x" + ")" * 40), plus(plus(X, X), X))
        self.wrong_equation("(" * 5000 + "x" + ")" * 5000 + " = x")

    def test_200_signs(self):
        # 13 signs, and two for each pair of brackets.
        def text(*pairs):
            sides = ["(" * many + "x" + ")" * many for many in pairs]
            return " + ".join(sides[:3]) + " == " + " + ".join(sides[3:6]) + " = " + sides[6]
        self.assertEqual(len(read_mill(HEAD + text(0, 0, 0, 0, 0, 0, 0) + "\n")[0][3]), 1)
        self.assertEqual(read_mill(HEAD + text(20, 20, 20, 20, 7, 3, 3) + "\n")[0][3],
                         ((same(plus(plus(X, X), X), plus(plus(X, X), X)), X),))
        # 13 + 2 * 93 is 199, an offset has two signs more, and so has one pair of brackets.
        self.assertEqual(count(text(20, 20, 20, 20, 7, 3, 3)), 199)
        self.wrong_equation(text(20, 20, 20, 20, 7, 3, 3) + "@+1")
        self.wrong_equation(text(20, 20, 20, 20, 7, 3, 4))
        even = "rest(x, 2) = " + " + ".join(["(" * many + "x" + ")" * many for many in (36, 36, 21, 0)])
        self.assertEqual(count(even), 200)
        self.assertEqual(len(read_mill(HEAD + even + "\n")[0][3]), 1)
        self.wrong_equation(even.replace("x, 2", "(x), 2"))
        self.wrong_equation(even.replace("x, 2", "x@-1, 2"))

    def test_first_line(self):
        for line in ("letters 0", "letters 4", "letters 12", "letters  2", "letters 2 ", " letters 2", "letters", "letters ",
                     "letters two", "letters -1", "letters 2 2", "Letters 2", "letter 2", "letters\t2", "", "x = in",
                     "name x 2 from 0", "tells x", "letters 02", "letters \u0662", "letters 2\r"):
            self.assertEqual(self.wrong(line + HEAD[9:]), 0, line)
        for letters in (1, 2, 3):
            self.assertEqual(read_mill(f"letters {letters}" + HEAD[9:])[0], (letters,) + mill_of()[1:])

    def test_lines_of_names(self):
        for line in ("name y1 3 from 3", "name y1 2 from 2", "name y1 4 from 0", "name y1 1 from 0", "name y1 3 from 12",
                     "name y1 13 from 0", "name y1 3 from", "name y1 3 1", "name y1 from 1", "name 3 from 1", "name",
                     "name ", "name y1 3 from 1 ", " name y1 3 from 1", "name  y1 3 from 1", "name y1  3 from 1",
                     "name\ty1 3 from 1", "name y1 3 From 1", "name x 3 from 1", "name in 3 from 1", "name pick 3 from 1",
                     "name rest 3 from 1", "name 1y 3 from 1", "name Y 3 from 1", "name abcdefghi 3 from 1",
                     "name y1 3 from -1", "name y_1 3 from 1", "name y1 3 from 1 1", "names y1 3 from 1", "",
                     "x = in", "letters 2", "name \u00e4 3 from 1", "name y1 \u0663 from 1"):
            text = HEAD.replace("name y1 3 from 1", line)
            self.assertEqual(self.wrong(text), 2, line)

    def test_told_names(self):
        for line in ("tells", "tells ", "tells q", "tells x q", "tells z x", "tells x x", "tells x  z", " tells x z",
                     "tells x z ", "tells\tx z", "tells x, z", "tells X", "tell x", "tells x y1 z x", "tells in", "",
                     "Tells x", "tells 0", "tells xz"):
            self.assertEqual(self.wrong(HEAD.replace("tells x z", line)), 4, line)
        for told in ((0,), (1,), (2,), (0, 1), (1, 2), (0, 1, 2)):
            line = "tells " + " ".join([WORDS[name] for name in told])
            self.assertEqual(read_mill(HEAD.replace("tells x z", line))[0][2], told)

    def test_lines_missing_doubled_and_out_of_sequence(self):
        lines = (HEAD + "x = in\n").splitlines(keepends=True)
        # Without a line: the letters, each name (the last one is told), the line that tells.
        for at, wrong in ((0, 0), (1, 3), (3, 3), (4, 4)):
            self.assertEqual(self.wrong("".join(lines[:at] + lines[at + 1:])), wrong, at)
        self.assertEqual(read_mill("".join(lines[:2] + lines[3:]))[1], ("x", "z"))
        self.assertEqual(read_mill("".join(lines[:5]))[0], mill_of())
        for at, wrong in ((0, 1), (1, 2), (2, 3), (3, 4), (4, 5)):
            self.assertEqual(self.wrong("".join(lines[:at + 1] + lines[at:])), wrong, at)
        self.assertEqual(read_mill("".join(lines + lines[5:]))[0], mill_of((X, IN), (X, IN)))
        for sequence, wrong in (((1, 0, 2, 3, 4, 5), 0), ((0, 4, 1, 2, 3, 5), 1), ((0, 1, 2, 4, 3, 5), 3),
                                ((0, 1, 2, 3, 5, 4), 4), ((0, 5, 1, 2, 3, 4), 1), ((4, 0, 1, 2, 3, 5), 0)):
            self.assertEqual(self.wrong("".join([lines[at] for at in sequence])), wrong, sequence)

    def test_the_line_that_tells_is_lacking(self):
        lines = HEAD.splitlines(keepends=True)
        for many in (1, 2, 3, 4):
            self.assertEqual(self.wrong("".join(lines[:many])), many)
        self.assertEqual(self.wrong("letters 2\ntells x\n"), 1)
        self.assertEqual(self.wrong("letters 2\nx = in\n"), 1)

    def test_the_fourth_name_and_the_seventh_equation(self):
        names = "letters 2\n" + "".join([f"name {word} 2 from 0\n" for word in "abcd"])
        self.assertEqual(self.wrong(names + "tells a\n"), 4)
        self.assertEqual(self.wrong(names), 4)
        self.assertEqual(len(read_mill(HEAD + "x = in\n" * 6)[0][3]), 6)
        self.assertEqual(self.wrong(HEAD + "x = in\n" * 7), 11)
        self.assertEqual(self.wrong(HEAD + "x = in\n" * 6 + "\n"), 11)
        self.assertEqual(self.wrong(HEAD + "x = in\n" * 3 + "x\n" + "x = in\n" * 4), 8)

    def test_the_last_line_is_ended(self):
        text = HEAD + "x = in\n"
        for end in range(1, len(text)):
            if text[end - 1] != "\n":
                self.assertEqual(self.wrong(text[:end]), text[:end].count("\n"))
        # It comes ahead of any line that is wrong.
        self.assertEqual(self.wrong("wrong\nx\ny"), 2)
        self.assertEqual(self.wrong("x"), 0)
        self.assertEqual(self.wrong(text + " "), 6)
        self.assertEqual(self.wrong(text + "\n"), 6)
        self.assertEqual(self.wrong("\n"), 0)
        self.assertEqual(self.wrong("\n" + text), 0)

    def test_no_string(self):
        for value in samples.NOTHINGS + (samples.nested(30000), b"letters 2\n", [HEAD], (HEAD,), {HEAD: 0}):
            self.assertEqual(self.wrong(value), 0, value)

    def test_the_first_wrong_line(self):
        lines = ["letters 9", "name x 9 from 0", "name y 2 from 0", "tells q", "x = q", "x ="]
        good = ["letters 2", "name x 2 from 0", "name y 2 from 0", "tells x", "x = y", "x = in"]
        for wrong in itertools.product((False, True), repeat=6):
            chosen = [bad if is_bad else fine for is_bad, bad, fine in zip(wrong, lines, good)]
            text = "\n".join(chosen) + "\n"
            mistakes = [at for at in (0, 1, 3, 4, 5) if wrong[at]]
            if mistakes:
                self.assertEqual(self.wrong(text), mistakes[0])
            else:
                self.assertEqual(read_mill(text)[1], ("x", "y"))

    def test_told_by_other_values(self):
        self.assertEqual(self.wrong("letters 2\nname x 2 from 0\ntells x\nx = rest(in, 0)\n"), 3)
        self.assertEqual(read_mill("letters 2\nname x 3 from 2\ntells x\nx = rest(in, 9)\n")[0], (
            2, ((3, 2),), (0,), ((X, ("rest", IN, 9)),)))


def count(line):
    """How many signs an equation has whose words and numbers are of one sign."""
    spaced = line
    for sign in ("==", "@+", "@-", "rest", "pick"):
        spaced = spaced.replace(sign, "?")
    return len(spaced.replace(" ", ""))


if __name__ == "__main__":
    unittest.main()
