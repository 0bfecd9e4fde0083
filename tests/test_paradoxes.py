"""Point 5: words, paradoxes and the sets that words lead to."""

import itertools
import unittest
import unittest.mock

import samples
from naive import Slow, small
from merelylate.paradoxes import closed_sets, is_paradox, paradox, shows_closed_sets
from merelylate.windows import live_windows, sets_through, windows

OF, IN = ("of", 0, 0), ("in", 0)


def at_most(*names):
    """An equation by which a product of letters, these many ticks later, is 0."""
    product = ("in", names[0])
    for offset in names[1:]:
        product = ("times", product, ("in", offset))
    return (("is", 0), product)


# What cannot come: the letter 1, 1 twice in a row, three times in a row; 2 with anything but 0 behind it.
ONE_BARRED = (2, ((2, 0),), (0,), (at_most(0), (OF, IN)))
THREE_BARRED = (2, ((2, 0),), (0,), (at_most(0, 1, 2), (OF, IN)))
PARTLY = (3, ((2, 0),), (0,), ((("is", 0), ("pick", ("same", IN, ("is", 2)), ("in", 1), ("is", 0))), (OF, ("is", 1))))


class ParadoxTest(unittest.TestCase):

    def test_none(self):
        for mill in (samples.AHEAD, samples.PLAIN, samples.LONE, samples.FREE, samples.DYING):
            self.assertIsNone(paradox(mill))
            self.assertIs(is_paradox(mill, ()), False)
            self.assertIs(is_paradox(mill, (0, 1) * 30), False)

    def test_the_empty_word(self):
        self.assertEqual(paradox(samples.STUCK), ())
        self.assertIs(is_paradox(samples.STUCK, ()), True)
        self.assertIs(is_paradox(samples.STUCK, (0,) * 60), True)
        self.assertIsNone(closed_sets(samples.STUCK))

    def test_one_two_and_three_letters(self):
        self.assertEqual(paradox(ONE_BARRED), (1,))
        self.assertEqual(paradox(samples.BARRED), (1, 1))
        self.assertEqual(paradox(THREE_BARRED), (1, 1, 1))

    def test_the_least_of_several(self):
        # 2 must have 0 behind it: (2, 1) and (2, 2) are as short.
        self.assertEqual(paradox(PARTLY), (2, 1))
        self.assertIs(is_paradox(PARTLY, (2, 2)), True)
        self.assertIs(is_paradox(PARTLY, (2, 0)), False)

    def test_all_words_that_begin_with_one(self):
        for word in itertools.product(range(2), repeat=5):
            self.assertIs(is_paradox(samples.BARRED, word), "11" in "".join(map(str, word)))
            self.assertIs(is_paradox(THREE_BARRED, word), "111" in "".join(map(str, word)))

    def test_long_words(self):
        self.assertIs(is_paradox(samples.BARRED, (0,) * 60), False)
        self.assertIs(is_paradox(samples.BARRED, (0,) * 58 + (1, 1)), True)
        self.assertEqual(samples.fields_of(is_paradox, samples.BARRED, (0,) * 61), ("BadLetters",))
        for word in samples.NOTHINGS + ((2,), (0, -1), (True,), (0, None), ((0,),), [0, 1]):
            wanted = None if word == () else ("BadLetters",)
            self.assertEqual(samples.fields_of(is_paradox, samples.BARRED, word), wanted, word)

    def test_closed_sets(self):
        self.assertEqual(closed_sets(samples.AHEAD), tuple(sorted(
            {sets_through(samples.AHEAD, word)[-1] for word in ((), (0,), (1,))})))
        self.assertEqual(len(closed_sets(samples.FREE)), 3)
        self.assertEqual(closed_sets(samples.PLAIN), (((0, ((0, 0),)),), ((0, ((1, 1),)),)))
        for mill in (ONE_BARRED, samples.BARRED, THREE_BARRED, PARTLY):
            self.assertIsNone(closed_sets(mill))

    def test_the_same_as_over_all_words(self):
        mills = samples.random_mills(51, 250) + samples.random_mills(52, 250, 0, 1) + [
            ONE_BARRED, THREE_BARRED, PARTLY, samples.DYING] + list(samples.SAMPLES)
        found = set()
        for mill in small(mills):
            slow = Slow(mill)
            least = slow.paradox()
            self.assertEqual(paradox(mill), least, mill)
            found.add(None if least is None else len(least))
            wanted = tuple(sorted(slow.all_sets())) if least is None else None
            self.assertEqual(closed_sets(mill), wanted, mill)
            self.assertIs(shows_closed_sets(mill, wanted), least is None)
            for word in ((), (0,), (0, 0), (mill[0] - 1,) * 3):
                self.assertIs(is_paradox(mill, word), slow.set_of(word) == ())
        self.assertLessEqual({None, 0, 1, 2, 3}, found)


class ShowsClosedSetsTest(unittest.TestCase):

    def shows(self, mill, *sets):
        return shows_closed_sets(mill, tuple(sets))

    def test_the_answer_and_more(self):
        for mill in (samples.AHEAD, samples.PLAIN, samples.BACK, samples.LONE, samples.FREE, samples.DYING):
            sets = closed_sets(mill)
            self.assertIs(shows_closed_sets(mill, sets), True)
            # All live windows lead to all of them by one letter or the other, so each letter's are added.
            every = live_windows(mill)
            more = set(sets) | {every}
            size = 0
            while size != len(more):
                size = len(more)
                slow = Slow(mill)
                more |= {slow.behind(one, letter) for one in more for letter in range(mill[0])}
            self.assertIs(shows_closed_sets(mill, tuple(sorted(more))), True, mill)

    def test_more_that_is_not_closed(self):
        sets = closed_sets(samples.AHEAD)
        every = live_windows(samples.AHEAD)
        self.assertIs(shows_closed_sets(samples.AHEAD, tuple(sorted(sets + (every,)))), True)
        one = ((1, ((0, 0),)),)
        # By the letter 0 this one leads to a set that is there, but by 1 to none at all.
        self.assertIs(shows_closed_sets(samples.AHEAD, tuple(sorted(sets + (one,)))), False)

    def test_one_set_too_few(self):
        for mill in (samples.AHEAD, samples.PLAIN, samples.FREE, samples.DYING, samples.LONE):
            sets = closed_sets(mill)
            for at in range(len(sets)):
                self.assertIs(shows_closed_sets(mill, sets[:at] + sets[at + 1:]), False)

    def test_the_empty_words_set_missing(self):
        sets = closed_sets(samples.FREE)
        start = sets_through(samples.FREE, ())[0]
        others = tuple([one for one in sets if one != start])
        self.assertIn(start, sets)
        self.assertEqual(len(others), 2)
        self.assertIs(shows_closed_sets(samples.FREE, others), False)

    def test_sequence_and_repeats(self):
        sets = closed_sets(samples.AHEAD)
        self.assertIs(self.shows(samples.AHEAD, *sets[::-1]), False)
        self.assertIs(self.shows(samples.AHEAD, sets[0], *sets), False)
        for at, one in enumerate(sets):
            if len(one) > 1:
                self.assertIs(self.shows(samples.AHEAD, *sets[:at], one[::-1], *sets[at + 1:]), False)
                self.assertIs(self.shows(samples.AHEAD, *sets[:at], one + one[-1:], *sets[at + 1:]), False)

    def test_empty_ones(self):
        sets = closed_sets(samples.AHEAD)
        self.assertIs(self.shows(samples.AHEAD), False)
        self.assertIs(self.shows(samples.AHEAD, (), *sets), False)
        for mill in (samples.STUCK, samples.BARRED):
            for value in ((), ((),), None, (live_windows(mill),)):
                self.assertIs(shows_closed_sets(mill, value), False)
        self.assertIs(self.shows(samples.BARRED, *sorted({sets_through(samples.BARRED, word)[-1] for word in (
            (), (0,), (1,), (1, 1))})), False)
        self.assertIs(self.shows(samples.BARRED, *sorted({sets_through(samples.BARRED, word)[-1] for word in (
            (), (0,), (1,))})), False)

    def test_windows_that_are_not_live(self):
        mill = samples.DYING
        sets = closed_sets(mill)
        dead = [window for window in windows(mill) if window not in live_windows(mill)]
        self.assertEqual(dead, [(1, ((0, 1),)), (1, ((1, 1),))])
        strange = [(0, ((1, 0),)), (1, ((0, 2),)), (1, ((2, 0),)), (1, ((1, 0), (1, 0))), (2, ((1, 0),)), 7, None, "x"]
        for odd in dead + strange + [[], {}]:
            self.assertIs(self.shows(mill, *(sets + ((odd,),))), False)
            for at, one in enumerate(sets):
                self.assertIs(self.shows(mill, *sets[:at], one + (odd,), *sets[at + 1:]), False)

    def test_values_of_every_kind(self):
        for mill in (samples.AHEAD, samples.BARRED, samples.STUCK, samples.LONE):
            for value in samples.NOTHINGS + (samples.nested(30000), (((),),), ((((),),),), ((None,),)):
                self.assertIs(shows_closed_sets(mill, value), False)
        sets = closed_sets(samples.AHEAD)
        for value in samples.spoiled(sets):
            self.assertIs(shows_closed_sets(samples.AHEAD, value), False, value)

    def test_no_more_than_2000(self):
        # The only letter leads from each window to all twelve, so that any sets will do beside two.
        mill = (1, ((3, 0), (2, 0), (2, 0)), (0,), ())
        every = live_windows(mill)
        self.assertEqual(len(every), 12)
        start = sets_through(mill, ())[0]
        others = [some for size in range(1, 12) for some in itertools.combinations(every, size) if some != start]
        for size, wanted in ((0, True), (7, True), (1998, True), (1999, False)):
            value = tuple(sorted([start, every] + others[-size or len(others):]))
            self.assertEqual(len(value), size + 2)
            self.assertIs(shows_closed_sets(mill, value), wanted)

    def test_too_many(self):
        for mill in (samples.MANY_SETS, samples.MANY_SETS_TOLD_0):
            self.assertEqual(samples.fields_of(paradox, mill), ("TooMany", 2000))
            self.assertEqual(samples.fields_of(closed_sets, mill), ("TooMany", 2000))
            self.assertIs(is_paradox(mill, (0, 1) * 30), False)
            self.assertIs(shows_closed_sets(mill, None), False)
            self.assertIs(shows_closed_sets(mill, (sets_through(mill, ())[0],)), False)

    def test_the_limit_is_reached(self):
        for mill, sets in ((samples.FREE, 3), (samples.AHEAD, 3), (samples.PLAIN, 2)):
            for most in (1, 2, 3):
                with unittest.mock.patch("merelylate.subsets.MOST_SETS", most):
                    wanted = ("TooMany", most) if most < sets else None
                    self.assertEqual(samples.fields_of(closed_sets, mill), wanted)
                    self.assertEqual(samples.fields_of(paradox, mill), wanted)

    def test_a_paradox_comes_before_too_many(self):
        for mill in (samples.BARRED, THREE_BARRED, ONE_BARRED, PARTLY):
            slow = Slow(mill)
            words = [word for length in range(4) for word in slow.words(length)]
            sets = len({slow.set_of(word) for word in words[:words.index(slow.paradox())]})
            for most in range(1, 12):
                with unittest.mock.patch("merelylate.subsets.MOST_SETS", most):
                    wanted = ("TooMany", most) if most < sets else None
                    self.assertEqual(samples.fields_of(paradox, mill), wanted, mill)


if __name__ == "__main__":
    unittest.main()
