"""The windows, which ones are live, and where letters lead (point 4)."""

import itertools
import random
import unittest

import samples
from merelylate.mills import is_history
from merelylate.windows import live_windows, next_windows, sets_through, windows


class WindowsTest(unittest.TestCase):

    def test_no_equations(self):
        mill = (2, ((2, 0), (3, 1)), (1,), ())
        expected = tuple((0, (column,)) for column in itertools.product(range(2), range(2), range(3)))
        self.assertEqual(windows(mill), expected)
        self.assertEqual(live_windows(mill), expected)

    def test_a_mill_that_looks_back(self):
        # A window is the last column; the name is the letter ahead of it, 0 at first.
        self.assertEqual(windows(samples.BACK), (
            (0, ((0, 0),)), (0, ((0, 1),)), (0, ((1, 0),)), (0, ((1, 1),))))
        two_back = (1, ((2, 1),), (0,), ((("of", 0, 0), ("plus", ("of", 0, -2), ("is", 0))),))
        self.assertEqual(windows(two_back), ((0, ((0, 1), (0, 1))),))

    def test_the_column_before_tick_0_stands_in(self):
        mill = (1, ((2, 1),), (0,), ((("of", 0, 0), ("is", 0)), (("of", 0, -2), ("of", 0, -2))))
        self.assertEqual(windows(mill), (
            (0, ((0, 0), (0, 0))), (0, ((0, 1), (0, 0))), (0, ((0, 1), (0, 1)))))

    def test_a_mill_that_looks_ahead_has_phases(self):
        mill = (1, ((2, 0),), (0,), ((("of", 0, 0), ("of", 0, 2)),))
        first, one, two = (0, ((0, 0), (0, 0))), (1, ((0, 0), (0, 1))), (1, ((0, 0), (0, 0)))
        self.assertEqual(windows(mill), (first, two, one) + tuple(
            (2, pair) for pair in itertools.product(((0, 0), (0, 1)), repeat=2)))

    def test_the_first_tick_is_asked_as_soon_as_it_can_be(self):
        # The letter of tick 0 is 1: what the first column says only the third one may bear out.
        mill = (2, ((2, 0),), (0,), ((("times", ("in", -1), ("is", 0)), ("times", ("in", 2), ("in", 0))),))
        self.assertEqual(max(phase for phase, _ in windows(mill)), 2)
        for letters, many in (((), 1), ((1,), 2), ((1, 1), 4), ((1, 1, 1), 0), ((1, 1, 0), 8), ((0, 1, 1), 8)):
            naive = samples.Naive(mill)
            self.assertEqual(len(naive.sets_through(letters)[-1]), many)
            self.assertEqual(len(sets_through(mill, letters)[-1]), many)

    def test_dead_ends(self):
        self.assertEqual(windows(samples.STUCK), ((0, ((0, 0),)), (0, ((0, 1),)), (0, ((0, 2),))))
        self.assertEqual(live_windows(samples.STUCK), ())
        barred = ((0, ((0, 0),)), (1, ((0, 0),)), (1, ((1, 1),)))
        self.assertEqual(live_windows(samples.BARRED), barred)
        self.assertEqual(windows(samples.BARRED), (
            (0, ((0, 0),)), (1, ((0, 0),)), (1, ((0, 1),)), (1, ((1, 0),)), (1, ((1, 1),))))

    def test_a_way_into_a_dead_end_is_dead(self):
        # From 1 on the name must grow, and it cannot; at 0 it may stay for ever.
        mill = (1, ((3, 0),), (0,), (
            (("pick", ("of", 0, -1), ("of", 0, 0), ("is", 0)),
             ("pick", ("of", 0, -1), ("plus", ("of", 0, -1), ("is", 1)), ("is", 0))),))
        self.assertEqual(windows(mill), ((0, ((0, 0),)), (0, ((0, 1),)), (0, ((0, 2),))))
        self.assertEqual(live_windows(mill), ((0, ((0, 0),)),))

    def test_ascending_and_unlike(self):
        for mill in samples.SAMPLES:
            for found in (windows(mill), live_windows(mill)):
                self.assertIsInstance(found, tuple)
                self.assertEqual(list(found), sorted(set(found)))

    def test_against_the_naive_reckoning(self):
        many = 0
        for mill in samples.SAMPLES + tuple(samples.random_mills(4, 250)):
            naive = samples.Naive(mill)
            expected = naive.windows(600)
            if expected is None:
                self.assertEqual(samples.fields_of(windows, mill), ("TooMany", 600))
                self.assertEqual(samples.fields_of(live_windows, mill), ("TooMany", 600))
            else:
                self.assertEqual(windows(mill), tuple(sorted(expected)))
                if len(expected) <= 100:
                    many += 1
                    self.assertEqual(live_windows(mill), tuple(sorted(naive.live_windows())))
        self.assertGreater(many, 100)

    def test_histories_are_the_ways_through_live_windows(self):
        for mill in samples.SAMPLES + tuple(samples.random_mills(5, 60)):
            if samples.fields_of(windows, mill) is not None:
                continue
            live = live_windows(mill)
            chance = random.Random(5)
            for _ in range(5 if live else 0):
                self.assertTrue(is_history(mill, self.way_back_to_a_window(mill, set(live), chance)), mill)

    def way_back_to_a_window(self, mill, live, chance):
        """The looping pair of a way from the start that goes on until a window comes again."""
        window = samples.Naive(mill).start()
        behind, columns = [window], []
        while True:
            ways = [after for letter in range(mill[0]) for after in next_windows(mill, window, letter)
                    if after in live]
            window = chance.choice(ways)
            columns.append(window[1][-1])
            if window in behind:
                at = behind.index(window)
                return tuple(columns[:at]), tuple(columns[at:])
            behind.append(window)


class NextWindowsTest(unittest.TestCase):

    def test_below_the_last_phase_nothing_is_asked(self):
        self.assertEqual(next_windows(samples.AHEAD, (0, ((1, 0),)), 1), ((1, ((1, 0),)), (1, ((1, 1),))))
        mill = (1, ((2, 0),), (0,), ((("of", 0, 0), ("of", 0, 2)),))
        columns = ((0, 1), (0, 1))
        self.assertEqual(next_windows(mill, (0, columns), 0), ((1, ((0, 1), (0, 0))), (1, ((0, 1), (0, 1)))))
        self.assertEqual(next_windows(mill, (1, columns), 0), ((2, ((0, 1), (0, 0))), (2, ((0, 1), (0, 1)))))
        self.assertEqual(next_windows(mill, (2, columns), 0), ((2, ((0, 1), (0, 1))),))

    def test_windows_that_do_not_come(self):
        mill = (2, ((2, 0),), (0,), ((("of", 0, 0), ("in", 0)),))
        self.assertNotIn((0, ((0, 1),)), windows(mill))
        self.assertEqual(next_windows(mill, (0, ((0, 1),)), 1), ((0, ((1, 1),)),))
        # In the start's phase, but with columns that stand at no tick before 0.
        self.assertEqual(len(next_windows(samples.WIDE, (0, ((1, 1),) * 4), 0)), 2)

    def test_no_way_on(self):
        self.assertEqual(next_windows(samples.STUCK, (0, ((0, 2),)), 0), ())

    def test_the_letter_is_that_of_the_next_column(self):
        mill = (3, ((2, 0),), (0,), ())
        for letter in range(3):
            self.assertEqual(next_windows(mill, (0, ((0, 1),)), letter), ((0, ((letter, 0),)), (0, ((letter, 1),))))

    def test_against_the_naive_reckoning(self):
        chance = random.Random(6)
        for mill in samples.SAMPLES + tuple(samples.random_mills(6, 200)):
            naive = samples.Naive(mill)
            for _ in range(10):
                columns = tuple(chance.choice(naive.columns) for _ in range(naive.length))
                window = (chance.randint(0, naive.ahead), columns)
                letter = chance.randrange(mill[0])
                expected = tuple(sorted(naive.after(window, letter)))
                self.assertEqual(next_windows(mill, window, letter), expected)

    def test_no_count_of_windows(self):
        mill = samples.AT_601
        self.assertEqual(len(next_windows(mill, samples.Naive(mill).start(), 0)), 8)


class BadWindowTest(unittest.TestCase):

    def assert_bad(self, mill, window):
        self.assertEqual(samples.fields_of(next_windows, mill, window, 0), ("BadWindow",), window)

    def test_no_window(self):
        good = (1, ((0, 0),))
        for window in samples.NOTHINGS + (0, list(good), good[:1], good + (0,), good[::-1], {1: 0}, ((0, 0),)):
            self.assert_bad(samples.AHEAD, window)

    def test_wrong_phase(self):
        for phase in samples.NOTHINGS + (2, (0,)):
            self.assert_bad(samples.AHEAD, (phase, ((0, 0),)))
        self.assert_bad(samples.PLAIN, (1, ((0, 0),)))
        self.assert_bad(samples.WIDE, (3, ((0, 0),) * 4))
        for phase in range(3):
            self.assertIsNone(samples.fields_of(next_windows, samples.WIDE, (phase, ((0, 0),) * 4), 0))

    def test_wrong_columns(self):
        for columns in samples.NOTHINGS + (
                0, [(0, 0)], ([0, 0],), ((0, 0), (0, 0)), ((0,),), ((0, 0, 0),), ((2, 0),), ((0, 2),), ((-1, 0),),
                ((True, 0),), ((0, True),), (("0", 0),), ((0, None),)):
            self.assert_bad(samples.AHEAD, (1, columns))

    def test_number_of_columns(self):
        for mill, length in ((samples.FREE, 1), (samples.PLAIN, 1), (samples.AHEAD, 1), (samples.BACK, 1),
                             (samples.NAMED, 2), (samples.WIDE, 4)):
            column = samples.Naive(mill).before
            for many in range(6):
                found = samples.fields_of(next_windows, mill, (0, (column,) * many), 0)
                self.assertEqual(found, None if many == length else ("BadWindow",), (mill, many))


class BadLetterTest(unittest.TestCase):

    def test_no_letter(self):
        for letters in (1, 2, 3):
            mill = (letters, ((2, 0),), (0,), ())
            for letter in samples.NOTHINGS + (letters, letters + 1, (0,)):
                self.assertEqual(samples.fields_of(next_windows, mill, (0, ((0, 0),)), letter), ("BadLetters",))
            for letter in range(letters):
                self.assertIsNone(samples.fields_of(next_windows, mill, (0, ((0, 0),)), letter))


class TooManyTest(unittest.TestCase):

    def test_600_are_not_too_many(self):
        self.assertEqual(len(windows(samples.AT_600)), 600)
        self.assertEqual(len(samples.Naive(samples.AT_600).windows()), 600)

    def test_601_are(self):
        self.assertEqual(len(samples.Naive(samples.AT_601).windows()), 601)
        self.assertEqual(samples.fields_of(windows, samples.AT_601), ("TooMany", 600))
        self.assertEqual(samples.fields_of(live_windows, samples.AT_601), ("TooMany", 600))
        self.assertEqual(samples.fields_of(sets_through, samples.AT_601, ()), ("TooMany", 600))

    def test_dead_windows_count_too(self):
        # No tick ever gets by the second equation, but a window has three columns ahead of it.
        mill = (3, ((3, 0),), (0,), ((("in", 2), ("in", 2)), (("is", 0), ("is", 1)), (("in", -1), ("in", -1))))
        self.assertEqual(live_windows(mill), ())
        wide = (3, ((3, 0), (3, 0), (3, 0)), (0,), mill[3])
        self.assertEqual(samples.fields_of(live_windows, wide), ("TooMany", 600))


if __name__ == "__main__":
    unittest.main()
