"""Points 10 and 11: what may be told, what is sure, and what is owed."""

import unittest
import unittest.mock

import samples
from naive import Slow, small
from merelylate.choices import is_honest, least_delay
from merelylate.futures import count_parts, open_tellings, owed_most, sure
from merelylate.windows import windows

# All that is told is free: the one name, or three of them of which two are told.
SEVERAL = (2, ((2, 0), (3, 0), (2, 1)), (0, 2), ((("of", 0, 0), ("in", 1)), (("of", 2, 0), ("in", 0))))
THREE_FREE = (1, ((3, 0),), (0,), ())
# The letter is told, another name is free.
UNTOLD = (2, ((2, 0), (3, 0)), (0,), ((("of", 0, 0), ("in", 0)),))
# The next letter; but behind a 1 the one behind it, so that a tick gets sure while the next one is owed.
LONGER_BEHIND_1 = (2, ((2, 0),), (0,), ((("of", 0, 0), ("pick", ("in", -1), ("in", 2), ("in", 1))),))
WORDS = ((), (0,), (1,), (0, 1), (1, 1), (1, 0, 1), (1, 1, 0, 0))


class TellingsTest(unittest.TestCase):

    def test_the_empty_word(self):
        for mill in (samples.AHEAD, samples.FREE, samples.BARRED):
            self.assertEqual([open_tellings(mill, ()), sure(mill, ()), count_parts(mill, ())], [((),), (), 1])
        self.assertEqual([open_tellings(samples.STUCK, ()), sure(samples.STUCK, ()), count_parts(samples.STUCK, ())],
                         [(), (), 0])

    def test_paradoxes(self):
        for word in ((1, 1), (0, 1, 1, 0), (1,) * 60):
            self.assertEqual(open_tellings(samples.BARRED, word), ())
            self.assertEqual(sure(samples.BARRED, word), (None,) * len(word))
            self.assertEqual(count_parts(samples.BARRED, word), 0)
        self.assertEqual(sure(samples.STUCK, (0, 0)), (None, None))
        self.assertEqual(open_tellings(samples.STUCK, (0,)), ())
        self.assertEqual(count_parts(samples.STUCK, (0,)), 0)

    def test_free_choices(self):
        self.assertEqual(open_tellings(samples.LONE, (0, 1, 0)), (((0,),) * 3, ((1,),) * 3))
        self.assertEqual(sure(samples.LONE, (0, 1, 0)), (None,) * 3)
        self.assertEqual(open_tellings(samples.FREE, (1, 1)), (
            ((0,), (0,)), ((0,), (1,)), ((1,), (0,)), ((1,), (1,))))

    def test_sure_ticks_behind_unsure_ones(self):
        # What is told at tick 0 comes with tick 1, but only where the letter is 1.
        mill = (2, ((2, 0),), (0,), ((("of", 0, 0), ("times", ("in", 0), ("in", 2))),))
        self.assertEqual(sure(mill, (1, 0, 0)), (((0,)), (0,), (0,)))
        self.assertEqual(sure(mill, (1, 0)), (None, (0,)))
        self.assertEqual(sure(mill, (1, 1, 0)), ((0,), None, (0,)))

    def test_several_names(self):
        self.assertEqual(open_tellings(SEVERAL, (1, 0)), (((0, 1), (0, 0)), ((0, 1), (1, 0))))
        self.assertEqual(sure(SEVERAL, (1, 0)), ((0, 1), None))
        # The second name, which is not told, has three values at each tick.
        self.assertEqual(count_parts(SEVERAL, (1, 0)), 18)

    def test_names_that_are_not_told(self):
        self.assertEqual(open_tellings(UNTOLD, (1, 0, 1)), (((1,), (0,), (1,)),))
        self.assertEqual(sure(UNTOLD, (1, 0, 1)), ((1,), (0,), (1,)))
        self.assertEqual(count_parts(UNTOLD, (1, 0, 1)), 27)

    def test_long_words(self):
        for word in ((0,) * 60, (0, 1) * 30):
            self.assertEqual(open_tellings(UNTOLD, word), (tuple([(letter,) for letter in word]),))
            self.assertEqual(sure(UNTOLD, word), open_tellings(UNTOLD, word)[0])
            self.assertEqual(count_parts(UNTOLD, word), 3 ** 60)
            self.assertEqual(sure(samples.AHEAD, word)[:-1], tuple([(letter,) for letter in word[1:]]))
        for call in (open_tellings, sure, count_parts):
            self.assertEqual(samples.fields_of(call, UNTOLD, (0,) * 61), ("BadLetters",))

    def test_letters(self):
        for call in (open_tellings, sure, count_parts):
            for word in samples.NOTHINGS + ((2,), (0, True), [0], "01", (0, -1), (0, None)):
                if word != () or not isinstance(word, tuple):
                    self.assertEqual(samples.fields_of(call, samples.AHEAD, word), ("BadLetters",), word)

    def test_too_many(self):
        # Each row may end in one of the windows that tell its last thing: 2 ** 14 ways, and no more than 3 ** 9.
        self.assertEqual(len(open_tellings(samples.FREE, (0, 1) * 7)), 2 ** 14)
        self.assertEqual(sure(samples.FREE, (0, 1) * 7), (None,) * 14)
        self.assertEqual(len(open_tellings(THREE_FREE, (0,) * 9)), 3 ** 9)
        for call in (open_tellings, sure):
            self.assertEqual(samples.fields_of(call, samples.FREE, (0, 1) * 7 + (0,)), ("TooMany", 20000))
            self.assertEqual(samples.fields_of(call, THREE_FREE, (0,) * 10), ("TooMany", 20000))
            self.assertEqual(samples.fields_of(call, samples.FREE, (0,) * 61), ("BadLetters",))
            self.assertEqual(samples.fields_of(call, samples.FREE, (0,) * 20 + (2,)), ("BadLetters",))
        # Rows that are counted are not kept.
        self.assertEqual(count_parts(samples.FREE, (0,) * 60), 2 ** 60)
        self.assertEqual(count_parts(THREE_FREE, (0,) * 60), 3 ** 60)

    def test_ways_with_windows_count(self):
        # One row, but each of its ends is kept by itself: it tells 0 whatever the other names are.
        mill = (1, ((2, 0), (3, 0), (3, 0)), (0,), ((("of", 0, 0), ("is", 0)),))
        self.assertEqual(len(windows(mill)), 9)
        self.assertEqual(open_tellings(mill, (0,) * 60), (((0,),) * 60,))
        # With a free name beside it, there are 9 ends for each of 2 ** 11 rows, and for twice as many.
        more = (1, ((2, 0), (3, 0), (3, 0)), (0,), ())
        self.assertEqual(len(open_tellings(more, (0,) * 11)), 2 ** 11)
        self.assertEqual(samples.fields_of(open_tellings, more, (0,) * 12), ("TooMany", 20000))
        self.assertEqual(samples.fields_of(sure, more, (0,) * 12), ("TooMany", 20000))

    def test_the_same_as_over_all_ways(self):
        mills = samples.random_mills(111, 150) + samples.random_mills(112, 100, 0, 2) + samples.likely_mills(113, 200)
        for mill in small(mills):
            slow = Slow(mill)
            for word in WORDS:
                word = tuple([letter % mill[0] for letter in word])
                rows = slow.rows(word)
                self.assertEqual(open_tellings(mill, word), tuple(rows), mill)
                told = [sorted({row[tick] for row in rows}) for tick in range(len(word))]
                self.assertEqual(sure(mill, word), tuple([one[0] if len(one) == 1 else None for one in told]))
                self.assertEqual(count_parts(mill, word), len({slow.columns_of(way) for way in slow.ways(word)}))


class OwedTest(unittest.TestCase):

    def test_delays(self):
        self.assertEqual(owed_most(samples.PLAIN), ((), 0))
        self.assertEqual(owed_most(samples.DYING), ((), 0))
        self.assertEqual(owed_most(samples.AHEAD), ((0,), 1))
        self.assertEqual(owed_most(samples.NEXT_BUT_ONE), ((0, 0), 2))
        self.assertEqual(owed_most(samples.counting(2)), ((0,) * 7, 7))

    def test_the_least_word(self):
        # The letter two ticks later counts only where the letter is 1.
        mill = (2, ((2, 0),), (0,), ((("of", 0, 0), ("times", ("in", 0), ("in", 2))),))
        self.assertEqual(owed_most(mill), ((1, 0), 2))
        other = (3, ((2, 0),), (0,), ((("of", 0, 0), ("less", ("is", 1), ("times", ("in", 0), ("in", 1)))),))
        self.assertEqual(owed_most(other), ((1,), 1))
        third = (3, ((2, 0),), (0,), ((("of", 0, 0), ("pick", ("same", ("in", 0), ("is", 2)), (
            "less", ("in", 1), ("in", 2)), ("is", 1))),))
        self.assertEqual(owed_most(third), ((2, 0), 2))

        self.assertEqual(owed_most(LONGER_BEHIND_1), ((1, 0, 0), 2))

    def test_the_limits_are_reached(self):
        with unittest.mock.patch("merelylate.tellings.MOST_WAYS", 8):
            self.assertEqual(len(open_tellings(samples.FREE, (0,) * 3)), 8)
            for call in (open_tellings, sure):
                self.assertEqual(samples.fields_of(call, samples.FREE, (0,) * 4), ("TooMany", 8))
        # Behind no letter, one, and each two of them there are 1, 2 and 4 lots of what is owed.
        for most in range(6, 10):
            with unittest.mock.patch("merelylate.futures.MOST_OWED", most):
                wanted = ("TooMany", most) if most < 7 else None
                self.assertEqual(samples.fields_of(owed_most, samples.NEXT_BUT_ONE), wanted)

    def test_not_honest(self):
        for mill in (samples.LONE, samples.FREE, samples.BARRED, samples.STUCK, samples.MANY_SETS):
            self.assertEqual(samples.fields_of(owed_most, mill), ("NotHonest",))

    def test_too_many(self):
        self.assertEqual(samples.fields_of(owed_most, samples.MANY_SETS_TOLD_0), ("TooMany", 2000))
        self.assertEqual(samples.fields_of(owed_most, samples.counting(3)), ("TooMany", 2000))
        self.assertEqual(samples.fields_of(owed_most, samples.AT_601), ("TooMany", 600))

    def test_the_least_delay_and_the_least_word(self):
        mills = samples.likely_mills(114, 500) + samples.random_mills(115, 200) + [
            samples.AHEAD, samples.NEXT_BUT_ONE, samples.DYING, LONGER_BEHIND_1]
        found = set()
        for mill in small(mills):
            if is_honest(mill):
                word, number = owed_most(mill)
                self.assertEqual(number, least_delay(mill), mill)
                shorter = [one for length in range(len(word) + 1) for one in Slow(mill).words(length) if one < word
                           or length < len(word)]
                self.assertEqual(owed(mill, word), number)
                self.assertFalse([one for one in shorter if owed(mill, one) >= number], mill)
                found.add(number)
        self.assertLessEqual({0, 1, 2}, found)


def owed(mill, word):
    """How many ticks of a word, from the first one on that is not sure, there are."""
    told = sure(mill, word)
    return len(told) - told.index(None) if None in told else 0


if __name__ == "__main__":
    unittest.main()
