"""Columns, what holds at a tick, and what columns tell (point 3)."""

import random
import unittest

import samples
from merelylate.mills import holds, reach, tells

# One letter of three, a name of three values and one of two, both told.
NAMES = ((3, 2), (2, 1))
COLUMNS = ((1, 0, 0), (2, 1, 1), (0, 2, 1), (2, 0, 0), (1, 2, 1))


def holds_there(left, right, tick, columns=COLUMNS):
    return holds((3, NAMES, (0, 1), ((left, right),)), columns, tick)


class HoldsTest(unittest.TestCase):

    def assert_comes_to(self, term, expected, tick):
        """That a term equals the number expected, and no other of one figure."""
        for number in range(10):
            self.assertIs(holds_there(term, ("is", number), tick), number == expected, (term, number))

    def test_in_and_of_at_all_offsets(self):
        for offset in range(-2, 3):
            self.assert_comes_to(("in", offset), COLUMNS[2 + offset][0], 2)
            self.assert_comes_to(("of", 0, offset), COLUMNS[2 + offset][1], 2)
            self.assert_comes_to(("of", 1, offset), COLUMNS[2 + offset][2], 2)

    def test_ahead_of_tick_0_stand_0_and_the_first_values(self):
        for tick, offset in ((0, -1), (0, -2), (1, -2)):
            self.assert_comes_to(("in", offset), 0, tick)
            self.assert_comes_to(("of", 0, offset), 2, tick)
            self.assert_comes_to(("of", 1, offset), 1, tick)
        self.assert_comes_to(("in", -1), 1, 1)
        self.assert_comes_to(("of", 0, -2), 0, 2)

    def test_is(self):
        for number in range(10):
            self.assert_comes_to(("is", number), number, 0)

    def test_numbers_that_are_joined(self):
        for one in range(4):
            for two in range(3):
                first, second = ("is", one), ("is", two)
                self.assert_comes_to(("plus", first, second), one + two, 0)
                self.assert_comes_to(("times", first, second), one * two, 0)
                self.assert_comes_to(("same", first, second), int(one == two), 0)
                self.assert_comes_to(("less", first, second), int(one < two), 0)

    def test_pick(self):
        for number in range(10):
            expected = 5 if number != 0 else 6
            self.assert_comes_to(("pick", ("is", number), ("is", 5), ("is", 6)), expected, 0)

    def test_rest(self):
        for number in range(10):
            for divisor in range(1, 10):
                self.assert_comes_to(("rest", ("is", number), divisor), number % divisor, 0)
        self.assert_comes_to(("rest", ("times", ("is", 9), ("is", 9)), 7), 81 % 7, 0)

    def test_great_numbers_stay_exact(self):
        great = ("is", 9)
        for _ in range(4):
            great = ("times", great, great)
        self.assertIs(holds_there(great, great, 0), True)
        self.assertIs(holds_there(great, ("plus", great[1], ("is", 1)), 0), False)

    def test_terms_within_terms(self):
        term = ("plus", ("times", ("in", -1), ("of", 0, 1)), ("less", ("of", 1, 0), ("in", 0)))
        self.assert_comes_to(term, 1 * 2 + 1, 1)

    def test_all_equations_are_asked(self):
        good = (("in", 0), ("is", 1))
        bad = (("in", 0), ("is", 2))
        for equations, expected in (
                ((), True), ((good,), True), ((bad,), False), ((good, bad), False), ((bad, good), False),
                ((good,) * 6, True), ((good,) * 5 + (bad,), False)):
            self.assertIs(holds((3, NAMES, (0,), equations), COLUMNS, 0), expected)

    def test_only_the_tick_asked_for_counts(self):
        mill = (3, NAMES, (0,), ((("in", 0), ("is", 2)),))
        self.assertEqual([holds(mill, COLUMNS, tick) for tick in range(5)], [False, True, False, True, False])

    def test_200_columns(self):
        mill = samples.AHEAD
        self.assertIs(holds(mill, ((0, 0),) * 200, 198), True)
        self.assertEqual(samples.fields_of(holds, mill, ((0, 0),) * 201, 0), ("BadColumns", None))

    def test_against_the_naive_reckoning(self):
        chance = random.Random(2)
        for mill in samples.random_mills(2, 300):
            naive = samples.Naive(mill)
            columns = tuple(chance.choice(naive.columns) for _ in range(7))
            for tick in range(7 - reach(mill)[1]):
                self.assertEqual(holds(mill, columns, tick), naive.holds(columns, tick), (mill, columns, tick))


class BadTickTest(unittest.TestCase):

    def assert_bad(self, mill, columns, tick):
        self.assertEqual(samples.fields_of(holds, mill, columns, tick), ("BadTick",), tick)

    def test_the_tick_ahead_must_be_there(self):
        columns = ((0, 0),) * 4
        for ahead in (0, 1, 2):
            mill = (2, ((2, 0),), (0,), ((("in", ahead), ("in", -2)),))
            for tick in range(6):
                if tick + ahead < 4:
                    self.assertIs(holds(mill, columns, tick), True)
                else:
                    self.assert_bad(mill, columns, tick)

    def test_no_column(self):
        for mill in (samples.FREE, samples.PLAIN, samples.AHEAD, samples.BACK):
            self.assert_bad(mill, (), 0)

    def test_no_tick(self):
        for tick in samples.NOTHINGS + (-2, (0,)):
            self.assert_bad(samples.FREE, ((0, 0),) * 3, tick)
            self.assert_bad(samples.AHEAD, ((0, 0),) * 3, tick)


class BadColumnsTest(unittest.TestCase):

    def assert_bad(self, index, columns):
        mill = (3, NAMES, (0, 1), ())
        self.assertEqual(samples.fields_of(holds, mill, columns, 0), ("BadColumns", index), columns)
        self.assertEqual(samples.fields_of(tells, mill, columns), ("BadColumns", index), columns)

    def test_no_tuple_or_too_long(self):
        for columns in (None, True, 0, "", "columns", [], {}, list(COLUMNS), {COLUMNS[0]: 0}):
            self.assert_bad(None, columns)
        self.assert_bad(None, (COLUMNS[0],) * 201)
        self.assert_bad(None, (None,) * 201)

    def test_the_first_that_is_no_column(self):
        good = COLUMNS[0]
        for wrong in samples.NOTHINGS + (
                0, (0, 0), (0, 0, 0, 0), [0, 0, 0], (3, 0, 0), (-1, 0, 0), (0, 3, 0), (0, 0, 2), (0, -1, 0),
                (True, 0, 0), (0, False, 0), (0, 0, True), (None, 0, 0), (0, "0", 0), (0, (0,), 0), ((0, 0, 0),)):
            self.assert_bad(0, (wrong,))
            self.assert_bad(2, (good, good, wrong, good))
            self.assert_bad(1, (good, wrong, wrong))
        self.assert_bad(199, (good,) * 199 + (None,))


class TellsTest(unittest.TestCase):

    def test_one_told_name(self):
        self.assertEqual(tells((3, NAMES, (0,), ()), COLUMNS), ((0,), (1,), (2,), (0,), (2,)))
        self.assertEqual(tells((3, NAMES, (1,), ()), COLUMNS), ((0,), (1,), (1,), (0,), (1,)))

    def test_several(self):
        self.assertEqual(tells((3, NAMES, (0, 1), ()), COLUMNS[:3]), ((0, 0), (1, 1), (2, 1)))
        self.assertEqual(tells(samples.NAMED, ((0, 1, 2, 0), (2, 0, 1, 1))), ((1, 0), (0, 1)))

    def test_no_column(self):
        self.assertEqual(tells(samples.NAMED, ()), ())

    def test_columns_that_break_equations_are_told_all_the_same(self):
        self.assertEqual(tells(samples.PLAIN, ((0, 1), (1, 0))), ((1,), (0,)))

    def test_200_columns(self):
        self.assertEqual(tells(samples.FREE, ((0, 1),) * 200), ((1,),) * 200)


if __name__ == "__main__":
    unittest.main()
