"""Which values are histories (point 3)."""

import itertools
import random
import unittest

import samples
from merelylate.mills import is_history


class IsHistoryTest(unittest.TestCase):

    def assert_is(self, expected, mill, stem, loop):
        self.assertIs(is_history(mill, (stem, loop)), expected, (mill, stem, loop))

    def test_stem_empty_and_not(self):
        self.assert_is(True, samples.PLAIN, (), ((1, 1),))
        self.assert_is(True, samples.PLAIN, ((0, 0),), ((1, 1),))
        self.assert_is(False, samples.PLAIN, ((0, 1),), ((1, 1),))
        self.assert_is(False, samples.PLAIN, ((0, 0),), ((1, 0),))

    def test_loops_of_one_column_and_of_several(self):
        self.assert_is(True, samples.AHEAD, (), ((1, 1),))
        self.assert_is(True, samples.AHEAD, (), ((0, 1), (1, 0)))
        self.assert_is(True, samples.AHEAD, ((0, 0),), ((0, 1), (1, 1), (1, 0)))
        self.assert_is(False, samples.AHEAD, (), ((0, 1), (1, 1)))

    def test_no_equations(self):
        self.assert_is(True, samples.FREE, (), ((1, 0), (0, 1)))

    def test_the_columns_before_tick_0_are_read(self):
        self.assert_is(True, samples.BACK, ((1, 0),), ((1, 1),))
        self.assert_is(False, samples.BACK, ((1, 1),), ((1, 1),))
        # Here the name itself is read, whose first value is 1.
        kept = (1, ((2, 1),), (0,), ((("of", 0, 0), ("of", 0, -2)),))
        self.assert_is(True, kept, (), ((0, 1),))
        self.assert_is(False, kept, (), ((0, 0),))

    def test_fails_only_in_a_later_turn(self):
        # The first turn of the loop reads 0 from before tick 0, the second one reads 1.
        self.assert_is(False, samples.BACK, (), ((1, 0),))
        self.assert_is(False, samples.BACK, (), ((0, 0), (1, 0)))
        two_back = (2, ((2, 0),), (0,), ((("of", 0, 0), ("in", -2)),))
        self.assert_is(False, two_back, (), ((0, 0), (1, 0)))
        self.assert_is(True, two_back, (), ((0, 0), (0, 0)))
        # Here even the second turn reads from before tick 0.
        self.assert_is(False, two_back, (), ((1, 0),))

    def test_fails_only_in_a_later_turn_behind_a_stem(self):
        self.assert_is(False, samples.BACK, ((0, 0),), ((1, 0),))
        self.assert_is(True, samples.BACK, ((0, 0),), ((0, 0),))
        self.assert_is(False, samples.BACK, ((0, 0),), ((0, 0), (1, 0)))

    def test_fails_only_where_stem_and_loop_meet(self):
        self.assert_is(False, samples.AHEAD, ((0, 1),), ((0, 0),))
        self.assert_is(True, samples.AHEAD, ((0, 0),), ((0, 0),))
        self.assert_is(False, samples.BACK, ((1, 0),), ((0, 0),))
        self.assert_is(True, samples.BACK, ((1, 0), (0, 1)), ((0, 0),))
        two_ahead = (2, ((2, 0),), (0,), ((("of", 0, 0), ("in", 2)),))
        self.assert_is(False, two_ahead, ((0, 0), (0, 1), (0, 0)), ((0, 0),))
        self.assert_is(True, two_ahead, ((0, 0), (0, 0)), ((0, 0),))

    def test_fails_only_where_the_loop_meets_itself(self):
        self.assert_is(False, samples.AHEAD, (), ((0, 1), (1, 1)))
        self.assert_is(True, samples.AHEAD, (), ((0, 1), (1, 0)))
        two_ahead = (2, ((2, 0),), (0,), ((("of", 0, 0), ("in", 2)),))
        self.assert_is(True, two_ahead, (), ((1, 1),))
        self.assert_is(True, two_ahead, (), ((0, 0), (1, 1)))
        self.assert_is(False, two_ahead, (), ((0, 1), (1, 1)))
        self.assert_is(True, two_ahead, (), ((1, 0), (0, 1), (0, 0)))
        self.assert_is(False, two_ahead, (), ((1, 0), (0, 0), (0, 0)))

    def test_both_ways(self):
        # The name is the letter before it, and the same as four ticks earlier, 0 at ticks -2 and -1.
        self.assert_is(True, samples.WIDE, (), ((0, 0),))
        self.assert_is(True, samples.WIDE, (), ((1, 0), (0, 1), (0, 0), (0, 0)))
        self.assert_is(True, samples.WIDE, ((1, 0),), ((0, 1), (0, 0), (0, 0), (1, 0)))
        self.assert_is(False, samples.WIDE, (), ((0, 0), (1, 0), (0, 1), (0, 0)))
        self.assert_is(False, samples.WIDE, (), ((1, 0), (0, 1), (0, 0), (0, 0), (0, 0)))

    def test_against_the_naive_reckoning(self):
        chance = random.Random(3)
        found = [0, 0]
        for mill in samples.SAMPLES + tuple(samples.random_mills(3, 400)):
            naive = samples.Naive(mill)
            for _ in range(20):
                stem, loop = (tuple(chance.choice(naive.columns) for _ in range(many))
                              for many in (chance.randint(0, 3), chance.randint(1, 3)))
                expected = naive.is_history(stem, loop)
                found[expected] += 1
                self.assert_is(expected, mill, stem, loop)
        self.assertGreater(min(found), 500)

    def test_all_short_pairs_against_the_naive_reckoning(self):
        for mill in (samples.AHEAD, samples.BACK, samples.LONE, samples.BARRED):
            naive = samples.Naive(mill)
            for stem_length, loop_length in itertools.product(range(3), range(1, 3)):
                for row in itertools.product(naive.columns, repeat=stem_length + loop_length):
                    stem, loop = row[:stem_length], row[stem_length:]
                    self.assert_is(naive.is_history(stem, loop), mill, stem, loop)


class NoLoopingPairTest(unittest.TestCase):

    def assert_no(self, value):
        self.assertIs(is_history(samples.FREE, value), False, value)

    def test_no_pair(self):
        good = ((), ((0, 0),))
        for value in samples.NOTHINGS + (0, list(good), good[:1], good + ((),), {(): ((0, 0),)}, good[1]):
            self.assert_no(value)

    def test_empty_loop(self):
        self.assert_no(((), ()))
        self.assert_no((((0, 0),), ()))

    def test_stem_and_loop_that_are_no_tuples_of_columns(self):
        for wrong in samples.NOTHINGS + (0, ((0, 2),), ((2, 0),), ((True, 0),), ((0, False),), ((0,),), ([0, 0],),
                                         ((0, 0, 0),), ((0, 0), None)):
            self.assert_no(((), wrong))
            if wrong != ():
                self.assert_no((wrong, ((0, 0),)))

    def test_200_columns_in_all(self):
        column = (0, 0)
        for stem, loop, expected in ((0, 200, True), (199, 1, True), (100, 100, True), (0, 201, False),
                                     (200, 1, False), (101, 100, False), (201, 0, False), (200, 0, False)):
            value = ((column,) * stem, (column,) * loop)
            self.assertIs(is_history(samples.AHEAD, value), expected, (stem, loop))

    def test_a_wrong_mill_is_an_error_all_the_same(self):
        self.assertEqual(samples.fields_of(is_history, None, None), ("BadMill", "mill"))


if __name__ == "__main__":
    unittest.main()
