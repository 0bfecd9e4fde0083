"""Point 19: the equations that fail, and why a word is a paradox."""

import itertools
import unittest

import samples
from naive import Slow, small
from merelylate.mills import holds, reach
from merelylate.paradoxes import is_paradox, paradox
from merelylate.reports import broken, why_not
from merelylate.windows import sets_through

OF, IN = ("of", 0, 0), ("in", 0)
ONE_BARRED = (2, ((2, 0),), (0,), ((("is", 0), IN), (OF, IN)))
THREE_BARRED = (2, ((2, 0),), (0,), ((("is", 0), ("times", IN, ("times", ("in", 1), ("in", 2)))), (OF, IN)))
# The letter after next must be the one before, so that a word is lost two letters later than it could be said.
ECHO = (2, ((2, 0), (2, 1)), (0,), ((("of", 1, 0), OF), (("of", 0, 1), ("in", -1)), (("of", 0, 2), ("in", 2))))
LATER = (2, ((3, 0),), (0,), ((("of", 0, 2), ("pick", ("in", 2), ("is", 3), OF)), (("of", 0, 1), ("of", 0, -1))))


def lines_of(mill, word):
    """The lines of a paradox by the document's words, over naive windows."""
    slow = Slow(mill)
    sets = [slow.set_of(word[:many]) for many in range(len(word) + 1)]
    many = sets.index(())
    lines = [f"tick {tick}: letter {word[tick]}: from {len(sets[tick])} to {len(sets[tick + 1])}" for tick in range(many)]
    for window in sets[many - 1] if many else ():
        for column in slow.columns:
            if column[0] == word[many - 1]:
                row = window[1] + (column,)
                lines.append("after " + " ".join(figures(one) for one in window[1]) + f" then {figures(column)}: " + why(
                    slow, window[0], row))
    return tuple(lines)


def figures(column):
    return ",".join(map(str, column))


def why(slow, phase, row):
    if phase == slow.ahead:
        for number, pair in enumerate(slow.equations):
            one = samples.Naive((slow.letters, slow.names, slow.told, (pair,)))
            if not one.holds_at(lambda at: row[len(row) - 1 - slow.ahead + at], 0):
                return f"equation {number} fails"
    return "no way on"


class BrokenTest(unittest.TestCase):

    def test_none_one_and_several(self):
        self.assertEqual(broken(samples.BARRED, ((1, 0), (1, 1)), 0), (0, 1))
        self.assertEqual(broken(samples.BARRED, ((1, 1), (1, 1)), 0), (0,))
        self.assertEqual(broken(samples.BARRED, ((1, 0), (0, 1)), 0), (1,))
        self.assertEqual(broken(samples.BARRED, ((1, 1), (0, 1)), 0), ())
        self.assertEqual(broken(samples.FREE, ((1, 1),), 0), ())
        six = samples.PLAIN[:3] + (((OF, IN), (OF, OF), (IN, OF), (("is", 3), ("is", 4)), (OF, ("in", -1)), (OF, ("is", 1))),)
        self.assertEqual(broken(six, ((1, 0),), 0), (0, 2, 3, 5))
        self.assertEqual(broken(six, ((1, 0), (0, 0)), 1), (3, 4, 5))

    def test_ticks_at_both_ends(self):
        # It reads two ticks back, ahead of tick 0 the first values, and two ahead.
        mill = samples.WIDE
        columns = ((0, 0), (1, 0), (0, 0), (1, 1))
        self.assertEqual([broken(mill, columns, tick) for tick in range(2)], [(), (0,)])
        for tick in (2, 3, 4, -1, 10 ** 30):
            self.assertEqual(samples.fields_of(broken, mill, columns, tick), ("BadTick",))
        self.assertEqual(broken(samples.BACK, ((0, 1),), 0), (0,))
        self.assertEqual(broken(samples.BACK, ((0, 0),), 0), ())
        self.assertEqual(broken(samples.BACK, ((1, 0),) * 200, 199), (0,))
        self.assertEqual(samples.fields_of(broken, samples.BACK, ((1, 0),) * 200, 200), ("BadTick",))

    def test_errors_in_their_sequence(self):
        column = (0, 0)
        self.assertEqual(samples.fields_of(broken, None, None, None), ("BadMill", "mill"))
        self.assertEqual(samples.fields_of(broken, samples.AHEAD, None, None), ("BadColumns", None))
        self.assertEqual(samples.fields_of(broken, samples.AHEAD, (column,) * 201, 0), ("BadColumns", None))
        self.assertEqual(samples.fields_of(broken, samples.AHEAD, (column, None, 7), None), ("BadColumns", 1))
        self.assertEqual(samples.fields_of(broken, samples.AHEAD, (column, (2, 0)), 0), ("BadColumns", 1))
        for tick in samples.NOTHINGS + (1, 2, "0", (0,)):
            self.assertEqual(samples.fields_of(broken, samples.AHEAD, (column, column), tick), ("BadTick",), tick)
        for value in samples.NOTHINGS:
            fields = samples.fields_of(broken, samples.AHEAD, value, 0)
            if not isinstance(value, tuple):
                self.assertEqual(fields, ("BadColumns", None))
            else:
                self.assertEqual(fields, ("BadTick",) if value == () else ("BadColumns", 0))

    def test_windows_are_not_counted(self):
        self.assertEqual(broken(samples.AT_601, ((0, 0, 0, 0),), 0), (0,))

    def test_the_same_as_one_by_one(self):
        for mill in samples.random_mills(211, 300) + samples.likely_mills(212, 100):
            slow = samples.Naive(mill)
            for columns in itertools.islice(itertools.product(slow.columns, repeat=reach(mill)[1] + 2), 40):
                for tick in range(2):
                    wanted = tuple(number for number, pair in enumerate(mill[3])
                                   if not samples.Naive(mill[:3] + ((pair,),)).holds(columns, tick))
                    self.assertEqual(broken(mill, columns, tick), wanted, mill)
                    self.assertIs(holds(mill, columns, tick), wanted == ())


class WhyNotTest(unittest.TestCase):

    def test_the_empty_word(self):
        for word in ((), (0,), (0,) * 60):
            self.assertEqual(why_not(samples.STUCK, word), ())
        barred = (2, ((2, 0),), (0,), ((("is", 0), ("is", 1)),))
        self.assertEqual(why_not(barred, (1, 0)), ())

    def test_one_letter(self):
        self.assertEqual(why_not(ONE_BARRED, (1,)), (
            "tick 0: letter 1: from 1 to 0", "after 0,0 then 1,0: equation 0 fails", "after 0,0 then 1,1: equation 0 fails"))
        self.assertEqual(why_not(ONE_BARRED, (0, 1)), (
            "tick 0: letter 0: from 1 to 1", "tick 1: letter 1: from 1 to 0",
            "after 0,0 then 1,0: equation 0 fails", "after 0,0 then 1,1: equation 0 fails"))

    def test_look_ahead_of_one(self):
        self.assertEqual(why_not(samples.BARRED, (0, 1, 1)), (
            "tick 0: letter 0: from 1 to 1", "tick 1: letter 1: from 1 to 1", "tick 2: letter 1: from 1 to 0",
            "after 1,1 then 1,0: equation 0 fails", "after 1,1 then 1,1: equation 0 fails"))

    def test_look_ahead_of_two(self):
        self.assertEqual(why_not(THREE_BARRED, (1, 1, 1)), (
            "tick 0: letter 1: from 1 to 1", "tick 1: letter 1: from 1 to 1", "tick 2: letter 1: from 1 to 0",
            "after 1,1 1,1 then 1,0: equation 0 fails", "after 1,1 1,1 then 1,1: equation 0 fails"))
        # The column before tick 0 stands in a window, too.
        mill = (2, ((2, 1),), (0,), ((("is", 0), ("in", 2)), (("of", 0, 1), ("of", 0, -2))))
        self.assertEqual(why_not(mill, (0, 1, 1)), (
            "tick 0: letter 0: from 1 to 2", "tick 1: letter 1: from 2 to 2", "tick 2: letter 1: from 2 to 0",
            "after 0,1 0,1 0,0 1,1 then 1,0: equation 0 fails", "after 0,1 0,1 0,0 1,1 then 1,1: equation 0 fails",
            "after 0,1 0,1 0,1 1,1 then 1,0: equation 0 fails", "after 0,1 0,1 0,1 1,1 then 1,1: equation 0 fails"))

    def test_no_way_on(self):
        # The letter 1 can't stand at the first tick: what it asks of the next tick, no column has.
        mill = (2, ((2, 0),), (0,), ((("of", 0, 1), ("pick", IN, ("is", 2), ("is", 0))),))
        self.assertEqual(why_not(mill, (1,)), (
            "tick 0: letter 1: from 1 to 0", "after 0,0 then 1,0: no way on", "after 0,0 then 1,1: no way on"))
        # By the equations that hold already it could: one fails by the one column, the other one leads nowhere.
        mill = (2, ((2, 0),), (0,), ((("of", 0, 1), ("pick", ("of", 0, 0), ("is", 2), ("in", 1))), (OF, OF)))
        self.assertEqual(why_not(mill, (0, 1)), (
            "tick 0: letter 0: from 1 to 1", "tick 1: letter 1: from 1 to 0",
            "after 0,0 then 1,0: equation 0 fails", "after 0,0 then 1,1: no way on"))

    def test_several_windows_and_columns(self):
        # Three values of a free name, and behind them two letters 1 one of which must fail.
        mill = (3, ((3, 0), (2, 0)), (0,), ((("times", IN, ("in", -1)), ("is", 0)), (("of", 1, 0), ("is", 0))))
        found = why_not(mill, (2, 2, 0))
        self.assertEqual(found[:2], ("tick 0: letter 2: from 1 to 3", "tick 1: letter 2: from 3 to 0"))
        self.assertEqual(found[2:], tuple([
            f"after 2,{one},0 then 2,{two},{three}: equation 0 fails" for one in range(3) for two in range(3) for three in range(2)]))

    def test_letters_behind_the_first_paradox(self):
        short = why_not(samples.BARRED, (1, 1))
        for more in itertools.product(range(2), repeat=3):
            self.assertEqual(why_not(samples.BARRED, (1, 1) + more), short)
        self.assertEqual(why_not(samples.BARRED, (1, 1) + (0,) * 58), short)

    def test_words_that_are_no_paradox(self):
        for word in ((), (0,), (1,), (1, 0), (0, 1) * 30, (1, 0, 1)):
            self.assertEqual(samples.fields_of(why_not, samples.BARRED, word), ("BadLetters",))
            self.assertEqual(samples.fields_of(why_not, samples.AHEAD, word), ("BadLetters",))
        for word in samples.NOTHINGS + ((2,), (1, 1, 2), (1, True), [1, 1], "11", (1, 1, -1), (1,) * 61, (1, 1, None)):
            self.assertEqual(samples.fields_of(why_not, samples.BARRED, word), ("BadLetters",), word)
        self.assertEqual(samples.fields_of(why_not, None, None), ("BadMill", "mill"))

    def test_too_many_windows(self):
        self.assertEqual(samples.fields_of(why_not, samples.AT_601, (3,)), ("BadLetters",))
        self.assertEqual(samples.fields_of(why_not, samples.AT_601, (0,)), ("TooMany", 600))

    def test_sums_of_the_lines(self):
        for mill in (samples.BARRED, THREE_BARRED, ONE_BARRED, LATER):
            word = paradox(mill)
            sets = sets_through(mill, word)
            lines = why_not(mill, word)
            for tick, line in enumerate(lines[:len(word)]):
                self.assertTrue(line.endswith(f": from {len(sets[tick])} to {len(sets[tick + 1])}"))
            self.assertTrue(all(line.startswith("after ") for line in lines[len(word):]))

    def test_the_same_by_the_words_of_the_document(self):
        seen = set()
        mills = samples.random_mills(213, 400) + samples.random_mills(214, 200, 0, 2) + samples.likely_mills(215, 100)
        mills += [(3,) + mill[1:] for mill in samples.random_mills(216, 100, -1, 1)] + [ECHO, LATER]
        for mill in small(mills, 60):
            for word in itertools.product(range(mill[0]), repeat=3):
                if is_paradox(mill, word):
                    lines = why_not(mill, word)
                    self.assertEqual(lines, lines_of(mill, word), (mill, word))
                    seen.add((reach(mill)[1], sum(line.startswith("tick") for line in lines)))
                    seen.update(line.partition(": ")[2] for line in lines)
                else:
                    self.assertEqual(samples.fields_of(why_not, mill, word), ("BadLetters",))
        self.assertLessEqual({(0, 0), (0, 1), (0, 2), (1, 0), (1, 1), (1, 2), (2, 0), (2, 1), (2, 2), (1, 3)}, seen)
        self.assertLessEqual({"no way on", "equation 0 fails", "equation 1 fails", "equation 2 fails"}, seen)


if __name__ == "__main__":
    unittest.main()
