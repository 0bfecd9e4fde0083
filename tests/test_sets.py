"""Words, and the live windows that they lead to (point 5)."""

import itertools
import unittest

import samples
from merelylate.windows import live_windows, sets_through, windows


class SetsThroughTest(unittest.TestCase):

    def test_empty_word(self):
        self.assertEqual(sets_through(samples.AHEAD, ()), (((0, ((0, 0),)),),))
        self.assertEqual(sets_through(samples.BACK, ()), (((0, ((0, 1),)),),))

    def test_one_for_each_beginning(self):
        word = (1, 0, 0, 1)
        found = sets_through(samples.AHEAD, word)
        self.assertEqual(len(found), 5)
        for many in range(5):
            self.assertEqual(sets_through(samples.AHEAD, word[:many]), found[:many + 1])

    def test_a_paradox_leads_to_nothing_for_good(self):
        start, zero, one = (0, ((0, 0),)), (1, ((0, 0),)), (1, ((1, 1),))
        self.assertEqual(sets_through(samples.BARRED, (0, 1, 1, 0)), ((start,), (zero,), (one,), (), ()))
        self.assertEqual(sets_through(samples.BARRED, (1, 0, 1)), ((start,), (one,), (zero,), (one,)))

    def test_even_the_empty_word_may_be_a_paradox(self):
        self.assertEqual(sets_through(samples.STUCK, ()), ((),))
        self.assertEqual(sets_through(samples.STUCK, (0, 0)), ((), (), ()))

    def test_only_live_windows(self):
        # Behind the letter 1 the name says 0 or 1; that it says 0, nothing bears out later.
        live = set(live_windows(samples.BARRED))
        self.assertIn((1, ((1, 0),)), windows(samples.BARRED))
        for word in itertools.product(range(2), repeat=4):
            for found in sets_through(samples.BARRED, word):
                self.assertLessEqual(set(found), live)

    def test_ascending(self):
        mill = (2, ((3, 0), (3, 0)), (0,), ((("of", 0, 1), ("of", 1, 0)),))
        for found in sets_through(mill, (1, 0, 1, 1)):
            self.assertIsInstance(found, tuple)
            self.assertEqual(list(found), sorted(set(found)))
        self.assertGreater(len(sets_through(mill, (1, 0))[-1]), 5)

    def test_against_the_naive_reckoning(self):
        many = 0
        for mill in samples.SAMPLES + tuple(samples.random_mills(7, 150, -1, 1)):
            naive = samples.Naive(mill)
            found = naive.windows(100)
            if found is None:
                continue
            many += 1
            for word in itertools.product(range(mill[0]), repeat=3):
                self.assertEqual(sets_through(mill, word), naive.sets_through(word), (mill, word))
        self.assertGreater(many, 60)


class WordTest(unittest.TestCase):

    def test_60_letters_and_61(self):
        self.assertEqual(len(sets_through(samples.AHEAD, (1, 0) * 30)), 61)
        self.assertEqual(samples.fields_of(sets_through, samples.AHEAD, (0,) * 61), ("BadLetters",))

    def test_no_word(self):
        for word in (None, True, False, 0, "", "01", [], [0, 1], {}, {0: 1}):
            self.assertEqual(samples.fields_of(sets_through, samples.AHEAD, word), ("BadLetters",), word)

    def test_no_letters(self):
        for wrong in samples.NOTHINGS + (2, 3, (0,)):
            for word in ((wrong,), (0, wrong), (wrong, 1), (0, 1, wrong, 0)):
                self.assertEqual(samples.fields_of(sets_through, samples.AHEAD, word), ("BadLetters",), word)

    def test_the_letters_are_those_of_the_mill(self):
        for letters in (1, 2, 3):
            mill = (letters, ((2, 0),), (0,), ())
            self.assertIsNone(samples.fields_of(sets_through, mill, (letters - 1,)))
            self.assertEqual(samples.fields_of(sets_through, mill, (letters,)), ("BadLetters",))


if __name__ == "__main__":
    unittest.main()
