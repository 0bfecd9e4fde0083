"""Point 7: honest mills, the least delay, and pairs of rows that show that less isn't enough."""

import itertools
import unittest
import unittest.mock

import samples
from naive import Slow, small
from merelylate.choices import bound, is_honest, least_delay, shows_two_stories, two_stories
from merelylate.windows import live_windows


def same_all(*pairs):
    """A term that is 1 if four names are these four numbers."""
    one, two, three, four = [("same", ("of",) + name, ("is", number)) for name, number in pairs]
    return ("times", ("times", one, two), ("times", three, four))


def told_after_237_ticks():
    """A mill that tells all at once but for the tick of number 237, and some that come still later.

    As long as the letter is 0 the first name goes through a turn of 242 sums, and the others keep what it
    was: the second one two ticks ago, the third one four. A letter 1 makes all of them 1, as at first. At
    one place of the turn the third name, which is told, must be the letter that comes next.
    """
    begun = ("plus", ("in", 0), ("in", -1))
    here = same_all(((0, -1), 1), ((0, -2), 2), ((1, -1), 2), ((2, -1), 0))
    behind = same_all(((0, -2), 1), ((1, -1), 2), ((1, -2), 2), ((2, -2), 0))
    total = ("plus", ("plus", ("of", 1, -1), ("of", 1, -2)), ("of", 2, -2))
    return (2, ((3, 1),) * 3, (2,), (
        (("of", 0, 0), ("pick", begun, ("is", 1), ("rest", total, 3))),
        (("of", 1, 0), ("pick", begun, ("is", 1), ("of", 0, -2))),
        (("pick", here, ("is", 0), ("of", 2, 0)), ("pick", here, ("is", 0), (
            "pick", begun, ("is", 1), ("of", 1, -2)))),
        (("times", ("in", 0), ("of", 2, 0)), ("in", 0)),
        (("times", behind, ("of", 2, -1)), ("times", behind, ("in", 0)))))


NOT_HONEST = (samples.LONE, samples.FREE, samples.BARRED, samples.STUCK, samples.AHEAD_BARRED, samples.LONE_BARRED)
DELAYS = ((samples.PLAIN, 0), (samples.BACK, 0), (samples.DYING, 0), (samples.AHEAD, 1), (samples.NEXT_BUT_ONE, 2),
          (samples.READ_AND_TOLD, 1), (samples.counting(2), 7), (samples.counting(3), 7), (samples.ALTERNATING, 7),
          (samples.TOLD_ONCE, 7))


class HonestTest(unittest.TestCase):

    def test_honest_mills(self):
        for mill, delay in DELAYS:
            self.assertIs(is_honest(mill), True)
            self.assertEqual(least_delay(mill), delay)
            self.assertLessEqual(delay, bound(mill))

    def test_paradox_choice_and_both(self):
        for mill in NOT_HONEST:
            self.assertIs(is_honest(mill), False)
            self.assertIsNone(least_delay(mill))

    def test_bound(self):
        self.assertEqual(bound(samples.STUCK), 0)
        for mill in NOT_HONEST + (samples.AHEAD, samples.PLAIN, samples.AT_600):
            many = len(live_windows(mill))
            self.assertEqual(bound(mill), sum(range(many)))

    def test_a_free_choice_is_looked_for_first(self):
        self.assertIs(is_honest(samples.MANY_SETS), False)
        self.assertIsNone(least_delay(samples.MANY_SETS))
        self.assertEqual(samples.fields_of(two_stories, samples.MANY_SETS), ("NotHonest",))
        for call in (is_honest, least_delay, two_stories):
            self.assertEqual(samples.fields_of(call, samples.MANY_SETS_TOLD_0), ("TooMany", 2000))
        self.assertEqual(samples.fields_of(shows_two_stories, samples.MANY_SETS_TOLD_0, 7), ("TooMany", 2000))
        self.assertEqual(samples.fields_of(bound, samples.MANY_SETS_TOLD_0), None)

    def test_the_same_as_over_pairs(self):
        found = set()
        mills = (samples.random_mills(81, 400) + samples.random_mills(82, 400, 0, 1) +
                 samples.random_mills(83, 200, 0, 2) + samples.likely_mills(84, 700))
        for mill in small(mills):
            slow = Slow(mill)
            honest = slow.honest()
            self.assertIs(is_honest(mill), honest, mill)
            self.assertEqual(least_delay(mill), slow.delay() if honest else None, mill)
            self.assertEqual(bound(mill), len(slow.live) * (len(slow.live) - 1) // 2)
            found.add(least_delay(mill))
        self.assertLessEqual({None, 0, 1, 2}, found)

    def test_delay_is_the_least_by_its_own_words(self):
        # Of all ways of words: those with letters alike up to so many ticks later tell the same.
        for mill in (samples.AHEAD, samples.NEXT_BUT_ONE, samples.PLAIN) + tuple(
                [mill for mill in small(samples.likely_mills(85, 150), 20) if is_honest(mill)]):
            slow = Slow(mill)
            delay = least_delay(mill)
            for length in range(1, 6):
                for word in slow.words(length):
                    rows = slow.rows(word)
                    for tick in range(length - delay):
                        self.assertEqual(len({row[tick] for row in rows}), 1, mill)
            if delay > 0:
                one, _ = two_stories(mill)
                rows = slow.rows([column[0] for column in one])
                self.assertGreater(len({row[len(one) - delay] for row in rows}), 1, mill)


class StoriesTest(unittest.TestCase):

    def shows(self, mill, one, other):
        return shows_two_stories(mill, (one, other))

    def test_delay_0(self):
        for mill in (samples.PLAIN, samples.BACK, samples.DYING):
            self.assertIsNone(two_stories(mill))
            self.assertIs(shows_two_stories(mill, None), True)
            for value in samples.NOTHINGS[1:] + (((), ()), (((0, 0),), ((0, 0),)), (((0, 0),), ((0, 1),))):
                self.assertIs(shows_two_stories(mill, value), False)

    def test_answers(self):
        for mill in (samples.AHEAD, samples.NEXT_BUT_ONE, samples.counting(2), samples.READ_AND_TOLD,
                     samples.ALTERNATING, samples.TOLD_ONCE):
            value = two_stories(mill)
            self.assertIs(shows_two_stories(mill, value), True)
            self.assertIs(shows_two_stories(mill, value[::-1]), True)
            self.assertIs(shows_two_stories(mill, (value[0], value[0])), False)
            self.assertIs(shows_two_stories(mill, value + value[:1]), False)
            self.assertIs(shows_two_stories(mill, None), False)

    def test_the_tick_before_the_end(self):
        # What is told at tick 0 is the letter at tick 2; at the end two ticks are open.
        mill = samples.NEXT_BUT_ONE
        self.assertIs(self.shows(mill, ((0, 0), (0, 0)), ((0, 1), (0, 0))), True)
        self.assertIs(self.shows(mill, ((0, 0), (0, 1)), ((0, 0), (0, 0))), False)
        self.assertIs(self.shows(mill, ((0, 0), (0, 1)), ((0, 1), (0, 0))), True)
        self.assertIs(self.shows(mill, ((0, 0),), ((0, 1),)), False)
        self.assertIs(self.shows(mill, (), ()), False)
        self.assertIs(self.shows(mill, ((0, 1), (0, 0), (1, 0)), ((0, 1), (0, 1), (1, 0))), True)
        self.assertIs(self.shows(mill, ((0, 1), (0, 0), (1, 0)), ((0, 1), (0, 0), (1, 1))), False)

    def test_unlike_rows(self):
        mill = samples.AHEAD
        self.assertIs(self.shows(mill, ((0, 1), (1, 0)), ((0, 1), (1, 1))), True)
        self.assertIs(self.shows(mill, ((0, 1), (1, 0)), ((1, 1), (1, 1))), False)
        self.assertIs(self.shows(mill, ((0, 0),), ((1, 1),)), False)
        self.assertIs(self.shows(mill, ((0, 1), (1, 0)), ((1, 1),)), False)
        self.assertIs(self.shows(mill, ((1, 1),), ((0, 1), (1, 0))), False)

    def test_rows_that_no_history_begins_with(self):
        mill = samples.AHEAD
        self.assertIs(self.shows(mill, ((0, 0), (1, 0)), ((0, 0), (1, 1))), False)
        self.assertIs(self.shows(mill, ((0, 1), (1, 0)), ((0, 0), (1, 1))), False)
        # The columns of a mill of which but some go on: 1 must have 0 behind it.
        dead = (2, ((2, 0), (2, 0)), (0,), (
            (("of", 0, 0), ("in", 1)), (("of", 1, 1), ("pick", ("of", 1, 0), ("is", 2), ("is", 0)))))
        self.assertEqual(least_delay(dead), 1)
        self.assertIs(self.shows(dead, ((0, 0, 0),), ((0, 1, 0),)), True)
        self.assertIs(self.shows(dead, ((0, 0, 1),), ((0, 1, 0),)), False)
        self.assertIs(self.shows(dead, ((0, 0, 0),), ((0, 1, 1),)), False)

    def test_200_columns(self):
        mill = samples.AHEAD
        row = ((0, 0),) * 199
        self.assertIs(self.shows(mill, row + ((0, 0),), row + ((0, 1),)), True)
        self.assertIs(self.shows(mill, row + ((0, 0), (0, 0)), row + ((0, 0), (0, 1))), False)

    def test_not_honest_for_any_value(self):
        for mill in NOT_HONEST:
            self.assertEqual(samples.fields_of(two_stories, mill), ("NotHonest",))
            for value in samples.NOTHINGS + ((((0, 0),), ((0, 1),)),):
                self.assertEqual(samples.fields_of(shows_two_stories, mill, value), ("NotHonest",))

    def test_values_of_every_kind(self):
        for value in samples.NOTHINGS + (samples.nested(30000), ((), ()), (None, None), ((None,), (None,))):
            self.assertIs(shows_two_stories(samples.AHEAD, value), False)
        for value in samples.spoiled((((0, 1), (1, 0)), ((0, 1), (1, 1)))):
            self.assertIs(shows_two_stories(samples.AHEAD, value), False, value)

    def test_all_small_values(self):
        for mill in (samples.AHEAD, samples.NEXT_BUT_ONE):
            slow = Slow(mill)
            delay = least_delay(mill)
            for length in range(4):
                begun = {word: [slow.columns_of(way) for way in slow.ways(word)] for word in slow.words(length)}
                rows = itertools.product(itertools.product(range(2), range(2)), repeat=length)
                for one, other in itertools.product(list(rows), repeat=2):
                    words = [tuple(letter for letter, _ in row) for row in (one, other)]
                    wanted = (length >= delay and words[0] == words[1] and one in begun[words[0]] and
                              other in begun[words[0]] and one[-delay][1] != other[-delay][1])
                    self.assertIs(self.shows(mill, one, other), wanted)

    def test_answers_of_many_mills(self):
        found = set()
        for mill in small(samples.likely_mills(86, 600) + samples.random_mills(87, 200, 0, 2)):
            if is_honest(mill):
                value = two_stories(mill)
                self.assertIs(value is None, least_delay(mill) == 0)
                self.assertIs(shows_two_stories(mill, value), True, mill)
                found.add(value and len(value[0]))
        self.assertLessEqual({None, 1, 2}, found)

    def test_too_many_columns(self):
        mill = told_after_237_ticks()
        self.assertEqual(least_delay(mill), 1)
        self.assertEqual(samples.fields_of(two_stories, mill), ("TooMany", 200))
        for value in (None, (((0, 1, 1, 0),), ((0, 1, 1, 1),))):
            self.assertIs(shows_two_stories(mill, value), False)
        # The columns that it finds are as few as can be: with more of them allowed there is an answer.
        with unittest.mock.patch("merelylate.choices.MOST_COLUMNS", 237):
            self.assertEqual(samples.fields_of(two_stories, mill), ("TooMany", 237))
        with unittest.mock.patch("merelylate.choices.MOST_COLUMNS", 238):
            value = two_stories(mill)
        self.assertEqual([len(row) for row in value], [238, 238])
        self.assertIs(shows_two_stories(mill, value), False)
        with unittest.mock.patch("merelylate.checks.MOST_COLUMNS", 238):
            self.assertIs(shows_two_stories(mill, value), True)

    def test_stories_that_begin_alike(self):
        # The first name counts on from a letter 1; at 2 the next letter is told, otherwise 0.
        mill = (2, ((3, 0), (2, 0)), (1,), (
            (("of", 0, 0), ("pick", ("of", 0, -1), ("rest", ("plus", ("of", 0, -1), ("is", 1)), 3), ("in", 0))),
            (("of", 1, 0), ("pick", ("same", ("of", 0, 0), ("is", 2)), ("in", 1), ("is", 0)))))
        self.assertEqual(least_delay(mill), 1)
        one, other = two_stories(mill)
        self.assertEqual([column[:2] for column in one], [column[:2] for column in other])
        self.assertEqual(one[0][:2], (1, 1))
        self.assertEqual(len(one), 2)
        self.assertIs(shows_two_stories(mill, (one, other)), True)

    def test_as_few_columns_as_can_be(self):
        mill = samples.counting(2)
        self.assertEqual(len(two_stories(mill)[0]), 7)
        with unittest.mock.patch("merelylate.choices.MOST_COLUMNS", 6):
            self.assertEqual(samples.fields_of(two_stories, mill), ("TooMany", 6))


if __name__ == "__main__":
    unittest.main()
