"""Point 16: letters that come by chance."""

import itertools
import unittest
import unittest.mock
from fractions import Fraction
from math import gcd, prod

import samples
from naive import Slow, small
from merelylate.chances import ever_lost, lost_within, mean_wait
from merelylate.choices import is_honest
from merelylate.futures import sure
from merelylate.paradoxes import is_paradox

OF, IN = ("of", 0, 0), ("in", 0)
CALLS = (ever_lost, mean_wait)
# The first letter is told for ever, and the ways of the letters 0 and 1 part for good: behind 1 there are paradoxes.
PARTED = (2, ((3, 2), (2, 0)), (0,), (
    (OF, ("pick", ("same", ("of", 0, -1), ("is", 2)), IN, ("of", 0, -1))),
    (("is", 0), ("times", ("times", IN, ("in", 1)), OF)), (("of", 1, 0), ("is", 0))))
# If the first letter is 1 the next letter is told, otherwise the letter itself.
AHEAD_OR_NOT = (2, ((3, 2), (2, 0)), (1,), (
    (OF, ("pick", ("same", ("of", 0, -1), ("is", 2)), IN, ("of", 0, -1))),
    (("of", 1, 0), ("pick", OF, ("in", 1), IN))))
# Unless the letter is 0 at the first tick, no input has a history.
FIRST_0 = (3, ((2, 1), (2, 0)), (0,), ((OF, ("is", 0)), (("times", IN, ("of", 0, -1)), ("is", 0)), (("of", 1, 0), ("is", 0))))
# The letter behind the next one where the letter is 1, the letter itself otherwise.
SOMETIMES = (2, ((2, 0),), (0,), ((OF, ("pick", IN, ("in", 2), ("is", 0))),))


def lowest(ratio):
    return ratio.numerator, ratio.denominator


def lost_by_words(mill, weights, ticks):
    """The chance that a word of so many letters is a paradox, word by word."""
    slow = Slow(mill)
    lost = sum(prod(weights[letter] for letter in word) for word in slow.words(ticks) if not slow.set_of(word))
    return lowest(Fraction(lost, sum(weights) ** ticks))


def owed_of(slow, word):
    """How many ticks of a word aren't sure at its end, from the first one on that isn't."""
    rows = slow.rows(word)
    return next((len(word) - at for at in range(len(word)) if len({row[at] for row in rows}) > 1), 0)


def solved(rows):
    """The numbers by which the sums of fractions in some rows come to what stands last in them."""
    rows = [list(row) for row in rows]
    many = len(rows[0]) - 1
    done = []
    for column in range(many):
        pivot = next((row for row in rows if row[column] != 0), None)
        rows = [row for row in rows if row is not pivot]
        for other in rows + done:
            factor = other[column] / pivot[column]
            for at in range(many + 1):
                other[at] -= factor * pivot[at]
        done.append(pivot)
    return [row[many] / row[column] for column, row in enumerate(done)]


class Walk:
    """States with the states that letters lead to, and what each one is worth."""

    def __init__(self, start, letters, behind, worth):
        self.states = [start]
        self.onto = []
        for state in self.states:
            row = [behind(state, letter) for letter in range(letters)]
            self.states += [after for at, after in enumerate(row) if after not in self.states and after not in row[:at]]
            self.onto.append(row)
        self.onto = [[self.states.index(after) for after in row] for row in self.onto]
        self.worth = [worth(state) for state in self.states]

    def reached(self, number):
        found = {number}
        fresh = [number]
        for state in fresh:
            fresh += [after for after in dict.fromkeys(self.onto[state]) if after not in found]
            found.update(self.onto[state])
        return found

    def mean(self, weights):
        """The mean worth in the long run: that of each lot that is not left, by the chance that it is come to."""
        whole = Fraction(sum(weights))
        many = len(self.states)
        reached = [self.reached(number) for number in range(many)]
        lots = {frozenset(one) for one in reached if all(reached[other] == one for other in one)}
        total = Fraction(0)
        for lot in lots:
            members = sorted(lot)
            # How much of the time each one takes: as much as leads to it; and all of them together take all.
            rows = [[sum(Fraction(weight) / whole for one, weight in zip(self.onto[source], weights) if one == member) -
                     (source == member) for source in members] + [0] for member in members[1:]]
            shares = solved(rows + [[Fraction(1)] * len(members) + [1]])
            mean = sum(share * self.worth[member] for share, member in zip(shares, members))
            total += mean * self.chance_of(lot, reached, weights, whole)
        return total

    def chance_of(self, lot, reached, weights, whole):
        """The chance that the start comes to a lot."""
        unsure = [number for number in range(len(self.states)) if number not in lot and reached[number] & lot]
        if 0 not in unsure:
            return int(0 in lot)
        rows = []
        for number in unsure:
            row = [Fraction(number == other) for other in unsure] + [Fraction(0)]
            for after, weight in zip(self.onto[number], weights):
                if after in lot:
                    row[-1] += weight / whole
                elif after in unsure:
                    row[unsure.index(after)] -= weight / whole
            rows.append(row)
        return solved(rows)[unsure.index(0)]


def sets_walk(mill):
    slow = Slow(mill)
    return Walk(slow.set_of(()), mill[0], slow.behind, lambda windows: int(not windows))


def owed_walk(mill):
    """What an honest mill owes behind words: for each live window what was told from the first unsure tick on."""
    slow = Slow(mill)

    def behind(owed, letter):
        fresh = {(after, row + (slow.told_in(after),)) for window, row in owed for after in slow.steps[window, letter]}
        while len({row[:1] for _, row in fresh}) == 1 and min(len(row) for _, row in fresh) > 0:
            fresh = {(after, row[1:]) for after, row in fresh}
        return frozenset(fresh)
    return Walk(frozenset((window, ()) for window in slow.beginnings()), mill[0], behind,
                lambda owed: max(len(row) for _, row in owed))


class WeightsTest(unittest.TestCase):

    def test_weights(self):
        for letters in range(1, 4):
            mill = (letters, ((3, 0),), (0,), ((OF, IN),))
            for weights in ((1,) * letters, (100,) * letters, (1, 100, 7)[:letters]):
                self.assertEqual(lost_within(mill, weights, 60), (0, 1))
                self.assertEqual(ever_lost(mill, weights), (0, 1))
                self.assertEqual(mean_wait(mill, weights), (0, 1))

    def test_values_that_are_none(self):
        good = ((1,), (1, 1), (1, 1, 1))
        for letters in range(1, 4):
            mill = (letters, ((2, 0),), (0,), ((OF, IN),))
            for weights in samples.NOTHINGS + good + (
                    (0,) * letters, (1,) * (letters - 1) + (0,), (101,) + (1,) * (letters - 1), (-1,) * letters,
                    [1] * letters, (True,) * letters, ("1",) * letters, (1,) * (letters - 1) + (None,), "111"[:letters],
                    ((1,),) * letters, (1,) * 4, (1.0,) * letters, samples.nested(30000), (1,) * 10 ** 5):
                if weights != good[letters - 1]:
                    for call in CALLS:
                        self.assertEqual(samples.fields_of(call, mill, weights), ("BadWeights",), weights)
                    self.assertEqual(samples.fields_of(lost_within, mill, weights, None), ("BadWeights",), weights)

    def test_ticks(self):
        for ticks in samples.NOTHINGS + (61, -1, "1", (1,), 1.0, 10 ** 30):
            self.assertEqual(samples.fields_of(lost_within, samples.BARRED, (1, 1), ticks), ("BadNumber",), ticks)
        self.assertIsNone(samples.fields_of(lost_within, samples.BARRED, (1, 1), 60))

    def test_the_first_error_is_raised(self):
        for call in CALLS:
            self.assertEqual(samples.fields_of(call, None, None), ("BadMill", "mill"))
        self.assertEqual(samples.fields_of(mean_wait, samples.LONE, (0, 1)), ("BadWeights",))
        self.assertEqual(samples.fields_of(lost_within, samples.AT_601, (1, 1, 1), 61), ("BadNumber",))
        self.assertEqual(samples.fields_of(lost_within, samples.AT_601, (1, 1, 1), 60), ("TooMany", 600))
        for call in CALLS:
            self.assertEqual(samples.fields_of(call, samples.AT_601, (1, 1)), ("BadWeights",))
            self.assertEqual(samples.fields_of(call, samples.AT_601, (1, 1, 1)), ("TooMany", 600))


class LostTest(unittest.TestCase):

    def test_no_tick_and_60(self):
        self.assertEqual(lost_within(samples.BARRED, (1, 1), 0), (0, 1))
        self.assertEqual(lost_within(samples.BARRED, (1, 1), 1), (0, 1))
        # Words without 1 twice in a row are as many as a sum of the last two numbers of them.
        one, two = 1, 2
        for _ in range(59):
            one, two = two, one + two
        whole = 2 ** 60
        self.assertEqual(lost_within(samples.BARRED, (1, 1), 60), lowest(Fraction(whole - two, whole)))

    def test_lowest_terms(self):
        for weights in ((1, 1), (2, 2), (100, 100), (3, 3)):
            self.assertEqual(lost_within(samples.BARRED, weights, 2), (1, 4))
            self.assertEqual(lost_within(samples.BARRED, weights, 3), (3, 8))
        self.assertEqual(lost_within(samples.BARRED, (2, 4), 2), (4, 9))
        self.assertEqual(lost_within(samples.BARRED, (1, 100), 2), (10000, 10201))
        self.assertEqual(lost_within(samples.BARRED, (100, 1), 2), (1, 10201))
        for ticks in range(61):
            above, below = lost_within(samples.BARRED, (6, 4), ticks)
            self.assertEqual(gcd(above, below), 1)
            self.assertGreater(below, 0)

    def test_chances_0_and_1(self):
        for mill in (samples.AHEAD, samples.LONE, samples.FREE, samples.DYING):
            for ticks in (0, 1, 10):
                self.assertEqual(lost_within(mill, (1,) * mill[0], ticks), (0, 1))
            self.assertEqual(ever_lost(mill, (1,) * mill[0]), (0, 1))
        barred = (2, ((2, 0),), (0,), ((("is", 0), ("is", 1)),))
        for ticks in (0, 1, 60):
            self.assertEqual(lost_within(samples.STUCK, (7,), ticks), (1, 1))
            self.assertEqual(lost_within(barred, (7, 1), ticks), (1, 1))
        self.assertEqual(ever_lost(samples.STUCK, (7,)), (1, 1))
        self.assertEqual(ever_lost(barred, (7, 1)), (1, 1))
        self.assertEqual(ever_lost(samples.BARRED, (100, 1)), (1, 1))

    def test_chances_between(self):
        self.assertEqual(ever_lost(PARTED, (1, 1)), (1, 2))
        self.assertEqual(ever_lost(PARTED, (2, 4)), (2, 3))
        self.assertEqual(ever_lost(PARTED, (99, 1)), (1, 100))
        self.assertEqual(ever_lost(FIRST_0, (1, 2, 3)), (5, 6))
        self.assertEqual(ever_lost(FIRST_0, (2, 2, 2)), (2, 3))
        self.assertEqual(lost_within(FIRST_0, (1, 2, 3), 60), (5, 6))
        self.assertEqual(lost_within(FIRST_0, (1, 2, 3), 0), (0, 1))

    def test_a_ring_and_a_way_out(self):
        # From the letter 0 on letters 0 go round; 1 is the way to what never fails, 2 to nothing.
        mill = (3, ((3, 0), (2, 0)), (0,), (
            (OF, ("pick", ("of", 0, -1), ("of", 0, -1), IN)), (("same", OF, ("is", 2)), ("is", 0)), (("of", 1, 0), ("is", 0))))
        self.assertEqual(ever_lost(mill, (5, 1, 1)), (1, 2))
        self.assertEqual(ever_lost(mill, (1, 30, 10)), (1, 4))
        self.assertEqual(lost_within(mill, (1, 1, 1), 1), (1, 3))
        self.assertEqual(lost_within(mill, (1, 1, 1), 2), (4, 9))

    def test_the_same_word_by_word(self):
        found = set()
        mills = samples.random_mills(191, 200) + samples.likely_mills(192, 150) + [PARTED, samples.BARRED, samples.AHEAD_BARRED]
        for mill in small(mills, 30):
            weights = (3, 1, 2)[:mill[0]]
            for ticks in range(5):
                chance = lost_within(mill, weights, ticks)
                self.assertEqual(chance, lost_by_words(mill, weights, ticks), (mill, ticks))
                found.add(chance[0] == 0 or chance)
        self.assertGreater(len(found), 10)

    def test_the_same_by_plain_sums(self):
        found = set()
        mills = samples.random_mills(193, 400) + samples.random_mills(194, 300, -1, 1) + samples.likely_mills(195, 200)
        mills += [(3,) + mill[1:] for mill in samples.random_mills(196, 200, -1, 1)] + [PARTED, FIRST_0, samples.AHEAD_BARRED]
        for mill in small(mills, 30):
            walk = sets_walk(mill)
            if len(walk.states) <= 25:
                for weights in ((1, 1, 1)[:mill[0]], (100, 7, 30)[:mill[0]]):
                    chance = ever_lost(mill, weights)
                    self.assertEqual(chance, lowest(walk.mean(weights)), mill)
                    found.add(chance if chance[0] in (0, 1) and chance[1] == 1 else len(lowest(walk.mean(weights))))
        self.assertLessEqual({(0, 1), (1, 1), 2}, found)

    def test_lost_within_has_no_such_limit(self):
        for mill in (samples.MANY_SETS, samples.MANY_SETS_TOLD_0):
            self.assertEqual(samples.fields_of(ever_lost, mill, (1, 1)), ("TooMany", 200))
        for ticks in (0, 6, 9):
            self.assertEqual(lost_within(samples.MANY_SETS, (1, 2), ticks), lost_by_words(samples.MANY_SETS, (1, 2), ticks))
        chances = [lost_within(mill, (1, 2), 40) for mill in (samples.MANY_SETS, samples.MANY_SETS_TOLD_0)]
        self.assertEqual(chances[0], chances[1])
        self.assertGreater(Fraction(*chances[0]), Fraction(1, 10))

    def test_the_limit_is_reached(self):
        # The sets of the start, of 0 and of 1; the empty one isn't counted.
        for mill, many in ((samples.BARRED, 3), (samples.AHEAD, 3), (samples.NEXT_BUT_ONE, 7)):
            with unittest.mock.patch("merelylate.chances.MOST_STATES", many):
                self.assertIsNone(samples.fields_of(ever_lost, mill, (1, 1)))
            with unittest.mock.patch("merelylate.chances.MOST_STATES", many - 1):
                self.assertEqual(samples.fields_of(ever_lost, mill, (1, 1)), ("TooMany", many - 1))


class WaitTest(unittest.TestCase):

    def test_delay_0(self):
        for mill in (samples.PLAIN, samples.BACK, samples.DYING):
            self.assertEqual(mean_wait(mill, (1,) * mill[0]), (0, 1))

    def test_delays_that_are_always_the_same(self):
        for weights in ((1, 1), (1, 100), (99, 2)):
            self.assertEqual(mean_wait(samples.AHEAD, weights), (1, 1))
            self.assertEqual(mean_wait(samples.NEXT_BUT_ONE, weights), (2, 1))

    def test_delays_that_depend_on_the_letters(self):
        # One tick is owed where the letter is 0, none where it is 1.
        mill = (2, ((2, 0),), (0,), ((OF, ("pick", IN, ("is", 1), ("in", 1))),))
        self.assertEqual(mean_wait(mill, (1, 1)), (1, 2))
        self.assertEqual(mean_wait(mill, (1, 3)), (1, 4))
        self.assertEqual(mean_wait(mill, (100, 1)), (100, 101))

    def test_one_of_two_for_good(self):
        # Behind a first letter 1 one tick is owed for ever, otherwise none.
        self.assertEqual(mean_wait(AHEAD_OR_NOT, (1, 1)), (1, 2))
        self.assertEqual(mean_wait(AHEAD_OR_NOT, (4, 2)), (1, 3))
        self.assertEqual(mean_wait(AHEAD_OR_NOT, (1, 100)), (100, 101))

    def test_in_turns(self):
        # In turns of eight ticks one more tick is owed at each letter, and at the eighth one all get sure.
        for mill in (samples.ALTERNATING, samples.TOLD_ONCE):
            for weights in ((1, 1), (1, 9)):
                self.assertEqual(mean_wait(mill, weights), (sum(range(8)) // 4, 2))

    def test_the_same_as_sure_says(self):
        for mill in (SOMETIMES, AHEAD_OR_NOT, samples.NEXT_BUT_ONE):
            # Behind so many letters a mill with so few states has come to where it stays.
            slow = Slow(mill)
            wanted = sum(Fraction(3 ** word.count(0), 4 ** 7) * owed_of(slow, word) for word in itertools.product(range(2), repeat=7))
            for word in itertools.product(range(2), repeat=4):
                told = sure(mill, word)
                self.assertEqual(owed_of(slow, word), len(word) - told.index(None) if None in told else 0)
            self.assertEqual(mean_wait(mill, (3, 1)), lowest(wanted), mill)

    def test_the_same_by_plain_sums(self):
        found = set()
        for mill in small(samples.likely_mills(197, 700) + [SOMETIMES, AHEAD_OR_NOT, samples.NEXT_BUT_ONE], 40):
            if is_honest(mill):
                walk = owed_walk(mill)
                if len(walk.states) <= 30:
                    for weights in ((1, 1)[:mill[0]], (100, 7)[:mill[0]]):
                        mean = mean_wait(mill, weights)
                        self.assertEqual(mean, lowest(walk.mean(weights)), mill)
                        found.add(mean)
        self.assertLessEqual({(0, 1), (1, 1), (1, 2), (2, 1)}, found)
        self.assertGreater(len(found), 8)

    def test_not_honest(self):
        for mill in (samples.LONE, samples.FREE, samples.BARRED, samples.STUCK, samples.MANY_SETS):
            self.assertEqual(samples.fields_of(mean_wait, mill, (1,) * mill[0]), ("NotHonest",))

    def test_too_many(self):
        self.assertEqual(samples.fields_of(mean_wait, samples.MANY_SETS_TOLD_0, (1, 1)), ("TooMany", 2000))
        self.assertEqual(samples.fields_of(mean_wait, samples.counting(3), (1, 1, 1)), ("TooMany", 200))
        for mill, many in ((samples.NEXT_BUT_ONE, 7), (samples.AHEAD, 3), (samples.PLAIN, 2)):
            with unittest.mock.patch("merelylate.chances.MOST_STATES", many):
                self.assertIsNone(samples.fields_of(mean_wait, mill, (1, 1)))
            with unittest.mock.patch("merelylate.chances.MOST_STATES", many - 1):
                self.assertEqual(samples.fields_of(mean_wait, mill, (1, 1)), ("TooMany", many - 1))


class AnswersTest(unittest.TestCase):

    def test_ratios_are_pairs_of_integers(self):
        for mill in (samples.AHEAD, PARTED, SOMETIMES):
            weights = (5, 10)
            answers = [lost_within(mill, weights, 7), ever_lost(mill, weights)]
            if is_honest(mill):
                answers.append(mean_wait(mill, weights))
            for answer in answers:
                self.assertEqual([type(part) for part in answer], [int, int])
                self.assertIsInstance(answer, tuple)
                self.assertEqual(gcd(*answer), 1)

    def test_more_and_more_is_lost(self):
        for mill in (PARTED, samples.BARRED, samples.AHEAD_BARRED):
            chances = [Fraction(*lost_within(mill, (9, 2), ticks)) for ticks in range(61)]
            self.assertEqual(chances, sorted(chances))
            self.assertLessEqual(chances[-1], Fraction(*ever_lost(mill, (9, 2))))
            self.assertGreater(chances[-1] + Fraction(1, 5), Fraction(*ever_lost(mill, (9, 2))))
            for ticks in range(8):
                lost = sum(9 ** word.count(0) * 2 ** word.count(1) for word in itertools.product(range(2), repeat=ticks)
                           if is_paradox(mill, word))
                self.assertEqual(chances[ticks], Fraction(lost, 11 ** ticks))


if __name__ == "__main__":
    unittest.main()
