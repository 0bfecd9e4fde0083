"""Point 6: free choices, mates and ranks."""

import itertools
import unittest
import unittest.mock

import samples
from naive import Slow, small
from merelylate.choices import free_choice, ranks, shows_free_choice, shows_ranks
from merelylate.choices import sides_of
from merelylate.lassos import shortened, shortest_lasso
from merelylate.live import Live
from merelylate.mates import Mates
from merelylate.mills import is_history
from merelylate.pairs import ENDLESS
from merelylate.stories import some_lasso
from merelylate.windows import live_windows, windows

# The second name is free, the first one is told.
HIDDEN = (2, ((2, 0), (2, 0)), (0,), ((("of", 0, 0), ("in", 0)),))
SHOWN = HIDDEN[:2] + ((0, 1),) + HIDDEN[3:]

# Only behind two letters 1, not one behind the other, the second name, which is told, is free.
COUNTED = ("pick", ("in", 0), ("pick", ("in", -1), ("of", 0, -1), ("plus", ("of", 0, -1), ("is", 1))), ("of", 0, -1))
FREE_LATER = (2, ((3, 0), (2, 0)), (1,), (
    (("of", 0, 0), ("pick", ("same", ("of", 0, -1), ("is", 2)), ("is", 2), COUNTED)),
    (("pick", ("same", ("of", 0, 0), ("is", 2)), ("is", 0), ("of", 1, 0)), ("is", 0))))


def counted(told, step):
    """A mill of one letter with a count in turns of 80 ticks, and one from anywhere, modulo 3, by a step."""
    return (1, ((3, 1), (3, 1), (3, 0)), (told,), (
        (("of", 0, 1), ("rest", ("plus", ("plus", ("of", 1, 0), ("of", 1, 0)), ("of", 1, -1)), 3)),
        (("of", 1, 1), ("of", 0, -1)),
        (("of", 2, 1), ("rest", ("plus", ("of", 2, 0), ("is", step)), 3))))


class FreeChoiceTest(unittest.TestCase):

    def test_mills_without_one(self):
        for mill in (samples.AHEAD, samples.PLAIN, samples.BACK, samples.BARRED, samples.STUCK, HIDDEN,
                     samples.DYING, samples.counting(2), samples.AHEAD_BARRED):
            self.assertIsNone(free_choice(mill))
            self.assertIs(shows_free_choice(mill, None), True)

    def test_mills_with_one(self):
        for mill in (samples.LONE, samples.FREE, SHOWN, samples.LONE_BARRED, samples.MANY_SETS, samples.KEPT_AND_TOLD):
            value = free_choice(mill)
            self.assertIs(shows_free_choice(mill, value), True)
            self.assertIs(shows_free_choice(mill, value[::-1]), True)
            self.assertIs(shows_free_choice(mill, None), False)
            for side in value:
                self.assertIs(is_history(mill, side), True)

    def test_one_that_comes_late(self):
        (one, loop), (other, other_loop) = free_choice(FREE_LATER)
        for stem in (one + loop, other + other_loop):
            letters = "".join([str(column[0]) for column in stem])
            self.assertEqual(letters[:3], "101")
        self.assertIs(shows_free_choice(FREE_LATER, free_choice(FREE_LATER)), True)
        with unittest.mock.patch("merelylate.choices.MOST_COLUMNS", 3):
            self.assertIs(shows_free_choice(FREE_LATER, free_choice(FREE_LATER)), True)
        with unittest.mock.patch("merelylate.choices.MOST_COLUMNS", 2):
            self.assertEqual(samples.fields_of(free_choice, FREE_LATER), ("TooMany", 2))

    def test_unlike_columns_that_tell_the_same(self):
        one, other = ((), ((0, 0, 0),)), ((), ((0, 0, 1),))
        self.assertIs(shows_free_choice(HIDDEN, (one, other)), False)
        self.assertIs(shows_free_choice(SHOWN, (one, other)), True)
        self.assertIs(shows_free_choice(SHOWN, (one, one)), False)
        self.assertIs(shows_free_choice(SHOWN, (one, (((0, 0, 0),) * 3, ((0, 0, 0),) * 2))), False)

    def test_unlike_inputs(self):
        for one, other in ((((), ((0, 0),)), ((), ((1, 1),))),
                           (((), ((0, 0), (1, 0))), ((), ((1, 1), (0, 1)))),
                           ((((1, 0),), ((0, 0),)), (((1, 1), (1, 1)), ((0, 1),)))):
            self.assertIs(is_history(samples.LONE, one) and is_history(samples.LONE, other), True)
            self.assertIs(shows_free_choice(samples.LONE, (one, other)), False)

    def test_no_histories(self):
        good, wrong = ((), ((0, 0),)), ((), ((0, 0), (0, 1)))
        self.assertIs(is_history(samples.LONE, wrong), False)
        self.assertIs(shows_free_choice(samples.LONE, (good, wrong)), False)
        self.assertIs(shows_free_choice(samples.LONE, (wrong, good)), False)
        self.assertIs(shows_free_choice(samples.AHEAD, (((), ((1, 1),)), ((), ((1, 0),)))), False)

    def test_unlike_stems_and_loops(self):
        # In all of them 1 comes at each odd tick.
        zero, one = (0, 0), (1, 0)
        rows = (((), (zero, one)), ((zero,), (one, zero)), ((zero, one, zero), (one, zero) * 3),
                ((), (zero, one) * 5))
        for stem, loop in rows:
            for other_stem, other_loop in rows:
                other = (tuple([(letter, 1) for letter, _ in other_stem]),
                         tuple([(letter, 1) for letter, _ in other_loop]))
                self.assertIs(shows_free_choice(samples.LONE, ((stem, loop), other)), True)
                self.assertIs(shows_free_choice(samples.LONE, ((stem, loop), (other_stem, other_loop))), False)

    def test_a_difference_late_in_both_loops(self):
        # With 7 and 11 columns the loops first tell unlike things at tick 6; the longer ones at 98.
        for many, most in ((7, 11), (99, 101)):
            zeros = ((0, 0),)
            one = ((), zeros * (many - 1) + ((0, 1),))
            self.assertIs(shows_free_choice(samples.FREE, (one, ((), zeros * most))), True)
            letters = ((), zeros * (most - 1) + ((1, 0),))
            self.assertIs(shows_free_choice(samples.FREE, (one, letters)), False)
        late = (((0, 0),) * 199, ((0, 1),))
        self.assertIs(shows_free_choice(samples.FREE, (late, ((), ((0, 0),)))), True)
        self.assertIs(shows_free_choice(samples.FREE, (late, (late[0] + late[1], late[1]))), False)

    def test_no_more_than_200_columns(self):
        long, short = (((0, 0),) * 199, ((0, 0),)), ((), ((0, 1),))
        self.assertIs(shows_free_choice(samples.LONE, (long, short)), True)
        self.assertIs(shows_free_choice(samples.LONE, (((0, 0),) + long[0], long[1])), False)
        self.assertIs(shows_free_choice(samples.LONE, ((((0, 0),) + long[0], long[1]), short)), False)

    def test_values_of_every_kind(self):
        value = free_choice(samples.LONE)
        for odd in samples.spoiled(value):
            self.assertIs(shows_free_choice(samples.LONE, odd), False, odd)
        for odd in samples.NOTHINGS + (samples.nested(30000), (value,), value + value, value + value[:1], (value[0], None)):
            for mill in (samples.LONE, samples.AHEAD, samples.STUCK):
                wanted = odd is None and mill != samples.LONE
                self.assertIs(shows_free_choice(mill, odd), wanted, odd)

    def test_the_same_as_by_pairs(self):
        found = {True: 0, False: 0}
        for mill in small(samples.random_mills(61, 400) + samples.random_mills(62, 300, 0, 2)):
            free = Slow(mill).delay() is None
            value = free_choice(mill)
            self.assertEqual(value is not None, free, mill)
            self.assertIs(shows_free_choice(mill, value), True, mill)
            self.assertIs(shows_free_choice(mill, None), not free)
            found[free] += 1
        self.assertGreater(min(found.values()), 50)

    def test_too_many_columns(self):
        # The two counts come to the same after 240 ticks only; the one of the 80 is told by itself.
        self.assertEqual(samples.fields_of(free_choice, counted(2, 1)), ("TooMany", 200))
        self.assertIsNone(ranks(counted(2, 1)))
        self.assertIs(shows_free_choice(counted(2, 1), None), False)
        for told in (0, 2):
            mill = counted(told, 0)
            value = free_choice(mill)
            self.assertEqual([(len(stem), len(loop)) for stem, loop in value], [(0, 80), (0, 80)])
            self.assertIs(shows_free_choice(mill, value), True)

    def test_too_many_only_where_there_is_no_shorter_one(self):
        # All pairs of a stem and a loop of the same lengths, three columns at most, are tried.
        outcomes = set()
        for mill in small(samples.random_mills(63, 400, -1, 1), 40):
            slow = Slow(mill)
            if slow.delay() is None and len(slow.columns) <= 6:
                there = False
                for stem, loop in ((0, 1), (0, 2), (1, 1), (0, 3), (1, 2), (2, 1)):
                    rows = itertools.product(slow.columns, repeat=stem + loop)
                    sides = [side for side in [(row[:stem], row[stem:]) for row in rows] if is_history(mill, side)]
                    there = there or any(shows_free_choice(mill, pair) for pair in itertools.product(sides, sides))
                with unittest.mock.patch("merelylate.choices.MOST_COLUMNS", 3):
                    outcome = samples.fields_of(free_choice, mill)
                    # It may find two of unlike lengths where there are none of the same ones.
                    if there or outcome is not None:
                        self.assertEqual(outcome, None if there else ("TooMany", 3), mill)
                    if outcome is None:
                        self.assertIs(shows_free_choice(mill, free_choice(mill)), True)
                outcomes.add(there)
        self.assertEqual(outcomes, {True, False})

    def test_the_shortest_stem_and_loop(self):
        lengths = set()
        for mill in small(samples.likely_mills(64, 900) + samples.random_mills(64, 600), 40):
            mates = Mates(Live(mill))
            lasso = some_lasso(mates)
            if lasso is not None:
                shortest = shortest_lasso(mates, lasso)
                self.assertIs(shows_free_choice(mill, sides_of(mates.live, shortest)), True, mill)
                before, after = [len(stem) + len(loop) for stem, loop in (lasso, shortest)]
                if after < before and after < 6:
                    self.assertEqual(after, fewest_pairs(mates), mill)
                    lengths.add((len(shortest[0]), len(shortest[1])))
        self.assertGreaterEqual(max(loop for _, loop in lengths), 2)
        self.assertGreaterEqual(max(stem for stem, _ in lengths), 2)

    def test_columns_made_shorter(self):
        for stem, loop, wanted in (
                ("", "a", ("", "a")), ("", "aaa", ("", "a")), ("aa", "a", ("", "a")), ("ab", "a", ("ab", "a")),
                ("a", "ba", ("", "ab")), ("ab", "cb", ("a", "bc")), ("abcbc", "bc", ("a", "bc")),
                ("xabcab", "cabcab", ("x", "abc")), ("", "abab", ("", "ab")), ("", "abaab", ("", "abaab")),
                ("b", "ab", ("", "ba")), ("ba", "aba", ("", "baa")), ("", "aabaab", ("", "aab"))):
            self.assertEqual(shortened(list(stem), list(loop)), (tuple(wanted[0]), tuple(wanted[1])), (stem, loop))


def fewest_pairs(mates):
    """The fewest pairs of a stem and a loop that told unlike things, by all ways of one pair more and more."""
    pairs, live = mates.pairs, mates.live
    start = (live.starts[0], live.starts[0])

    def behind(pair):
        return {after for letter in range(live.many_letters) for after in pairs.afters(pair, letter)
                if pairs.depth(after) == ENDLESS}
    ways = [(pair,) for pair in behind(start)]
    while True:
        for way in ways:
            told_unlike = any(live.told[one] != live.told[other] for one, other in way)
            if told_unlike and behind(way[-1]) & set(way):
                return len(way)
        # A way that comes to a pair again has what it told unlike before it, or could have been shorter.
        ways = [way + (pair,) for way in ways for pair in behind(way[-1])]


class RanksTest(unittest.TestCase):

    def shows(self, mill, *pairs):
        return shows_ranks(mill, tuple(pairs))

    def test_answers(self):
        self.assertEqual(ranks(samples.PLAIN), ())
        self.assertEqual(ranks(samples.STUCK), ())
        self.assertEqual(ranks(HIDDEN), ())
        self.assertIsNone(ranks(samples.LONE))
        # With a paradox besides there is a free choice all the same, and without one there are ranks.
        self.assertIsNone(ranks(samples.LONE_BARRED))
        pairs = ranks(samples.AHEAD_BARRED)
        self.assertEqual([rank for _, rank in pairs], [0])
        self.assertIs(shows_ranks(samples.AHEAD_BARRED, pairs), True)

    def test_ranks_of_several(self):
        pairs = ranks(samples.NEXT_BUT_ONE)
        self.assertEqual({rank for _, rank in pairs}, {0, 1})
        self.assertIs(shows_ranks(samples.NEXT_BUT_ONE, pairs), True)
        for mill in (samples.counting(2), samples.ALTERNATING, samples.TOLD_ONCE):
            self.assertEqual({rank for _, rank in ranks(mill)}, set(range(7)))

    def test_the_same_as_by_rounds(self):
        found = set()
        for mill in small(samples.random_mills(71, 300) + samples.random_mills(72, 300, 0, 1)) + [
                samples.AHEAD, samples.NEXT_BUT_ONE, samples.AHEAD_BARRED, samples.LONE_BARRED, samples.TOLD_ONCE,
                samples.READ_AND_TOLD, samples.ALTERNATING]:
            wanted = Slow(mill).ranks()
            self.assertEqual(ranks(mill), wanted, mill)
            self.assertIs(shows_ranks(mill, wanted), wanted is not None)
            found.add(None if wanted is None else len(wanted))
        self.assertGreater(len(found), 3)

    def test_nothing_shows_them_with_a_free_choice(self):
        for mill in (samples.LONE, samples.LONE_BARRED, SHOWN):
            live = live_windows(mill)
            pairs = [((one, other), 5) for one in live for other in live if one < other]
            for value in (None, (), tuple(pairs), tuple(pairs[:1])):
                self.assertIs(shows_ranks(mill, value), False)

    def test_greater_ranks_and_more_pairs(self):
        (first, _), (second, _) = ranks(samples.AHEAD)
        for one in (0, 1, 199999, 200000):
            self.assertIs(self.shows(samples.AHEAD, (first, one), (second, 0)), True)
        for one in (-1, 200001, 10 ** 30, True, False, None, "0", (0,), [0]):
            self.assertIs(self.shows(samples.AHEAD, (first, one), (second, 0)), False)
            self.assertIs(self.shows(samples.AHEAD, (first, 0), (second, one)), False)

    def test_one_too_few(self):
        for mill in (samples.AHEAD, samples.NEXT_BUT_ONE, samples.AHEAD_BARRED, samples.counting(2)):
            pairs = ranks(mill)
            for at in range(len(pairs)):
                self.assertIs(shows_ranks(mill, pairs[:at] + pairs[at + 1:]), False)
        self.assertIs(shows_ranks(samples.AHEAD, ()), False)
        self.assertIs(shows_ranks(samples.PLAIN, ()), True)
        self.assertIs(shows_ranks(samples.STUCK, ()), True)

    def test_sequence(self):
        pairs = ranks(samples.NEXT_BUT_ONE)
        self.assertIs(shows_ranks(samples.NEXT_BUT_ONE, pairs[::-1]), False)
        self.assertIs(shows_ranks(samples.NEXT_BUT_ONE, pairs[:1] + pairs), False)
        self.assertIs(shows_ranks(samples.NEXT_BUT_ONE, (pairs[0], (pairs[0][0], pairs[0][1] + 1)) + pairs[1:]), False)
        turned = (((pairs[0][0][1], pairs[0][0][0]), pairs[0][1]),)
        self.assertIs(shows_ranks(samples.NEXT_BUT_ONE, turned + pairs[1:]), False)
        self.assertIs(shows_ranks(samples.NEXT_BUT_ONE, tuple(sorted(turned + pairs))), False)

    def test_ranks_that_are_not_less(self):
        pairs = ranks(samples.NEXT_BUT_ONE)
        for at, (pair, rank) in enumerate(pairs):
            if rank == 0:
                for other, wanted in ((0, True), (1, False), (200000, False)):
                    value = pairs[:at] + ((pair, other),) + pairs[at + 1:]
                    leads = any(pair in behind(samples.NEXT_BUT_ONE, one) for one, _ in pairs)
                    self.assertIs(shows_ranks(samples.NEXT_BUT_ONE, value), wanted or not leads)
            else:
                for other, wanted in ((0, False), (1, True), (2, True), (200000, True)):
                    value = pairs[:at] + ((pair, other),) + pairs[at + 1:]
                    self.assertIs(shows_ranks(samples.NEXT_BUT_ONE, value), wanted)

    def test_more_pairs_than_needed(self):
        mill = samples.AHEAD
        pairs = ranks(mill)
        live = live_windows(mill)
        shown = 0
        for one in live:
            for other in live:
                if one < other and (one, other) not in [pair for pair, _ in pairs]:
                    value = tuple(sorted(pairs + (((one, other), 7),)))
                    # No letter may lead both to one window, and each pair behind must be there.
                    onward = behind(mill, (one, other))
                    wanted = all(a != b and (a, b) in dict(pairs) for a, b in onward)
                    self.assertIs(shows_ranks(mill, value), wanted, (one, other))
                    shown += wanted
        self.assertGreater(shown, 0)

    def test_windows_that_are_not_live(self):
        mill = samples.DYING
        dead = [window for window in windows(mill) if window not in live_windows(mill)]
        live = live_windows(mill)
        self.assertIs(shows_ranks(mill, ()), True)
        for odd in dead + [(1, ((0, 2),)), (0, ((1, 0),)), None, (1, ((True, 0),)), (1, ((0,),)), [], "x", {}]:
            self.assertIs(shows_ranks(mill, (((live[0], odd), 0),)), False)
            self.assertIs(shows_ranks(mill, (((odd, live[0]), 0),)), False)
            self.assertIs(shows_ranks(mill, (((odd, odd), 0),)), False)
        self.assertIs(shows_ranks(mill, (((live[0], live[0]), 0),)), False)

    def test_values_of_every_kind(self):
        for odd in samples.spoiled(ranks(samples.AHEAD)):
            self.assertIs(shows_ranks(samples.AHEAD, odd), False, odd)
        for odd in samples.NOTHINGS + (samples.nested(30000), (((),),), (((), 0),), ((((), ()), 0),)):
            for mill in (samples.AHEAD, samples.PLAIN, samples.LONE):
                self.assertIs(shows_ranks(mill, odd), odd == () and isinstance(odd, tuple) and mill == samples.PLAIN)


def behind(mill, pair):
    """The pairs to which letters lead a pair, the lesser one first."""
    slow = Slow(mill)
    return {tuple(sorted(one)) for one in slow.pairs_behind({pair})}


if __name__ == "__main__":
    unittest.main()
