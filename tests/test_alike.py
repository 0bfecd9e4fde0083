"""Point 9: mills that tell the same, and words at which they don't."""

import random
import unittest

import samples
from naive import Slow, small
from merelylate.choices import is_honest, least_delay
from merelylate.late import are_alike, late_mill, run_late, unlike_word

OF, IN = ("of", 0, 0), ("in", 0)


def letter_at(offset, first=0):
    """A mill that tells the letter so many ticks later."""
    return (2, ((2, first),), (0,), ((OF, ("in", offset)),))


# What a mill tells that is like another one but for the first tick, and but for a third 1 in a row.
SAME_AS_PLAIN = (2, ((3, 2), (2, 0)), (1,), ((OF, ("is", 1)), (("of", 1, 0), ("times", IN, OF))))
NO_THIRD = (2, ((2, 0),), (0,), ((OF, ("times", IN, ("same", ("is", 0), ("times", ("in", -1), ("in", -2))))),))
AHEAD_NO_THIRD = (2, ((2, 0),), (0,), ((OF, ("times", ("in", 1), ("same", ("is", 0), ("times", IN, ("in", -1))))),))
THREE = (3, ((3, 0),), (0,), ((OF, IN),))
AT_600_TOLD_0 = samples.AT_600[:3] + (samples.AT_600[3] + ((OF, ("is", 1)),),)


class AlikeTest(unittest.TestCase):

    def both(self, one, other, word):
        self.assertEqual(unlike_word(one, other), word)
        self.assertEqual(unlike_word(other, one), word)
        self.assertIs(are_alike(one, other), word is None)
        self.assertIs(are_alike(other, one), word is None)

    def test_alike(self):
        for mill in (samples.PLAIN, samples.AHEAD, samples.BACK, samples.NEXT_BUT_ONE, samples.counting(2)):
            self.both(mill, mill, None)
        self.both(samples.PLAIN, SAME_AS_PLAIN, None)
        # The first value of a name is told at no tick.
        for offset in (0, 1, 2, -1):
            self.both(letter_at(offset), letter_at(offset, 1), None)

    def test_unlike(self):
        self.both(samples.AHEAD, samples.PLAIN, (0, 1))
        self.both(samples.PLAIN, letter_at(-1), (1,))
        self.both(letter_at(1), letter_at(-1), (0, 1))
        self.both(letter_at(2), letter_at(1), (0, 0, 1))
        self.both(letter_at(2), letter_at(-2), (0, 0, 1))
        self.both(samples.PLAIN, samples.DYING, (1,))

    def test_later_ones(self):
        self.both(samples.PLAIN, NO_THIRD, (1, 1, 1))
        self.both(samples.AHEAD, AHEAD_NO_THIRD, (1, 1, 1))
        # The word is told as late as the later one of both tells it.
        self.both(samples.PLAIN, AHEAD_NO_THIRD, (0, 1))
        self.both(samples.PLAIN, samples.counting(2)[:2] + ((0,),) + samples.counting(2)[3:], None)

    def test_the_least_of_the_shortest(self):
        # Just the letters 1 and 2 are told, and only at the second tick.
        one = (3, ((3, 0),), (0,), ((OF, IN),))
        other = (3, ((3, 0),), (0,), ((OF, ("pick", ("same", IN, ("is", 0)), ("in", -1), IN)),))
        self.both(one, other, (1, 0))
        third = (3, ((3, 0),), (0,), ((OF, ("pick", ("same", IN, ("is", 1)), ("in", -1), IN)),))
        self.both(one, third, (1,))
        self.both(other, third, (1,))

    def test_letters_and_told_names(self):
        three = THREE
        single = (1,) + samples.PLAIN[1:]
        two_told = SAME_AS_PLAIN[:2] + ((0, 1),) + SAME_AS_PLAIN[3:]
        for other in (three, single, two_told):
            for call in (are_alike, unlike_word):
                self.assertEqual(samples.fields_of(call, samples.PLAIN, other), ("NotAlike",))
                self.assertEqual(samples.fields_of(call, other, samples.PLAIN), ("NotAlike",))
                self.assertIsNone(samples.fields_of(call, other, other))
        self.both(three, three, None)

    def test_the_sequence_of_errors(self):
        other_letters = (3,) + samples.LONE[1:]
        not_honest = ("NotHonest",)
        cases = (
            (None, None, ("BadMill", "mill")), (samples.PLAIN[:3], samples.LONE, ("BadMill", "mill")),
            (samples.LONE, samples.PLAIN[:3] + (7,), ("BadMill", "equations")),
            (samples.AT_601, (2, (), (0,), ()), ("BadMill", "names")),
            (samples.LONE, other_letters, ("NotAlike",)), (samples.AT_601, samples.PLAIN, ("NotAlike",)),
            (samples.PLAIN, samples.AT_601, ("NotAlike",)),
            (samples.LONE, samples.PLAIN, not_honest), (samples.PLAIN, samples.LONE, not_honest),
            (samples.LONE, samples.LONE, not_honest), (samples.BARRED, samples.PLAIN, not_honest),
            (samples.PLAIN, samples.BARRED, not_honest), (samples.MANY_SETS, samples.PLAIN, not_honest),
            (samples.MANY_SETS_TOLD_0, samples.LONE, ("TooMany", 2000)),
            (samples.LONE, samples.MANY_SETS_TOLD_0, not_honest),
            (samples.PLAIN, samples.MANY_SETS_TOLD_0, ("TooMany", 2000)),
            (samples.AT_601, other_letters, ("TooMany", 600)), (other_letters, samples.AT_601, not_honest),
            (THREE, samples.AT_601, ("TooMany", 600)),
            (AT_600_TOLD_0, samples.AT_601, ("TooMany", 600)))
        for one, other, error in cases:
            for call in (are_alike, unlike_word):
                self.assertEqual(samples.fields_of(call, one, other), error, (one, other))

    def test_wrong_mills_in_either_place(self):
        for value in samples.NOTHINGS + (samples.nested(30000),):
            for call in (are_alike, unlike_word):
                self.assertEqual(samples.fields_of(call, value, samples.PLAIN), ("BadMill", "mill"))
                self.assertEqual(samples.fields_of(call, samples.PLAIN, value), ("BadMill", "mill"))

    def test_the_same_as_over_all_words(self):
        chance = random.Random(95)
        mills = [mill for mill in small(samples.likely_mills(96, 500)) if is_honest(mill)]
        slow = {mill: Slow(mill) for mill in mills}
        found = set()
        for _ in range(700):
            one, other = chance.choice(mills), chance.choice(mills)
            if one[0] != other[0] or len(one[2]) != len(other[2]):
                self.assertEqual(samples.fields_of(unlike_word, one, other), ("NotAlike",))
                continue
            delay = max(least_delay(one), least_delay(other))
            words = [word for length in range(delay + 5) for word in slow[one].words(length)]
            wanted = [word for word in words
                      if slow[one].told_late(word, delay) != slow[other].told_late(word, delay)]
            word = unlike_word(one, other)
            if wanted or word is None or len(word) < delay + 5:
                self.assertEqual(word, wanted[0] if wanted else None, (one, other))
            self.assertIs(are_alike(one, other), word is None)
            found.add((word is None, delay))
        self.assertLessEqual({(True, 0), (False, 0), (False, 1), (False, 2)}, found)

    def test_alike_late_mills(self):
        # With the same delay they are alike just if their late mills are the same.
        mills = [mill for mill in small(samples.likely_mills(97, 200)) if is_honest(mill)]
        for one in mills[:40]:
            for other in mills[:40]:
                if one[0] == other[0] and len(one[2]) == len(other[2]) and least_delay(one) == least_delay(other):
                    word = unlike_word(one, other)
                    machines = late_mill(one), late_mill(other)
                    self.assertIs(word is None, machines[0] == machines[1])
                    if word is not None:
                        runs = [run_late(machine, word) for machine in machines]
                        self.assertEqual(runs[0][:-1], runs[1][:-1])
                        self.assertNotEqual(runs[0][-1], runs[1][-1])


if __name__ == "__main__":
    unittest.main()
