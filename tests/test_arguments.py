"""What point 1 says of the arguments of every function."""

import copy
import unittest

import samples
from merelylate.benches import Bench
from merelylate.chances import ever_lost, lost_within, mean_wait
from merelylate.choices import (
    bound, free_choice, is_honest, least_delay, ranks, shows_free_choice, shows_ranks, shows_two_stories, two_stories)
from merelylate.eager import bursts, eager_mill, fast, run_eager, shows_eager
from merelylate.faults import fault_reach, heals, letter_reach
from merelylate.friends import enemy_ticks, friend_plan, keeps_on
from merelylate.futures import count_parts, open_tellings, owed_most, sure
from merelylate.joins import behind, beside, reads_back, ringed, turned
from merelylate.late import are_alike, late_mill, run_late, shows_late, unlike_word
from merelylate.loops import has_history, history_of, how_many, shows_history, steady, telling_of
from merelylate.lots import decided, delays, honest_lots, needed, without
from merelylate.mills import holds, is_history, reach, tells
from merelylate.paradoxes import closed_sets, is_paradox, paradox, shows_closed_sets
from merelylate.reports import broken, why_not
from merelylate.texts import read_mill, written
from merelylate.windows import live_windows, next_windows, sets_through, windows

MILL = samples.AHEAD
WINDOW = (1, ((1, 0),))
COLUMNS = ((1, 0), (0, 1))

NO_MILL = ("BadMill", "mill")
TEXT = "letters 2\nname x 2 from 0\ntells x\nx = in@+1\n"
LATE = (((1, None), (1, None)), ((1, (0,)), (1, (1,))))
EAGER = (((1, ()), (1, ())), ((1, ((0,),)), (1, ((1,),))))
LOOPING = ((1,), (0, 1))
SPLIT = ((0,), (1,))

# For each function good arguments, and the error for None in the place of each.
CALLS = (
    (reach, (MILL,), (("BadMill", "mill"),)),
    (holds, (MILL, COLUMNS, 0), (("BadMill", "mill"), ("BadColumns", None), ("BadTick",))),
    (tells, (MILL, COLUMNS), (("BadMill", "mill"), ("BadColumns", None))),
    (is_history, (MILL, ((), COLUMNS)), (("BadMill", "mill"), None)),
    (windows, (MILL,), (("BadMill", "mill"),)),
    (live_windows, (MILL,), (("BadMill", "mill"),)),
    (next_windows, (MILL, WINDOW, 0), (("BadMill", "mill"), ("BadWindow",), ("BadLetters",))),
    (sets_through, (MILL, (0, 1)), (("BadMill", "mill"), ("BadLetters",))),
    (paradox, (MILL,), (NO_MILL,)),
    (is_paradox, (MILL, (0, 1)), (NO_MILL, ("BadLetters",))),
    (closed_sets, (MILL,), (NO_MILL,)),
    (shows_closed_sets, (MILL, closed_sets(MILL)), (NO_MILL, None)),
    (free_choice, (MILL,), (NO_MILL,)),
    (shows_free_choice, (MILL, (((), ((0, 0),)),) * 2), (NO_MILL, None)),
    (ranks, (MILL,), (NO_MILL,)),
    (shows_ranks, (MILL, ranks(MILL)), (NO_MILL, None)),
    (is_honest, (MILL,), (NO_MILL,)),
    (least_delay, (MILL,), (NO_MILL,)),
    (bound, (MILL,), (NO_MILL,)),
    (two_stories, (MILL,), (NO_MILL,)),
    (shows_two_stories, (MILL, (((1, 0),), ((1, 1),))), (NO_MILL, None)),
    (late_mill, (MILL,), (NO_MILL,)),
    (run_late, (LATE, (0, 1)), (("BadLate", None), ("BadLetters",))),
    (shows_late, (MILL, LATE), (NO_MILL, None)),
    (are_alike, (MILL, MILL), (NO_MILL, NO_MILL)),
    (unlike_word, (MILL, MILL), (NO_MILL, NO_MILL)),
    (open_tellings, (MILL, (0, 1)), (NO_MILL, ("BadLetters",))),
    (sure, (MILL, (0, 1)), (NO_MILL, ("BadLetters",))),
    (count_parts, (MILL, (0, 1)), (NO_MILL, ("BadLetters",))),
    (owed_most, (MILL,), (NO_MILL,)),
    (written, (MILL, ("x",)), (NO_MILL, ("BadWords",))),
    (read_mill, (TEXT,), (("BadText", 0),)),
    (behind, (MILL, MILL), (NO_MILL, NO_MILL)),
    (beside, (MILL, MILL), (NO_MILL, NO_MILL)),
    (ringed, (MILL,), (NO_MILL,)),
    (turned, (MILL,), (NO_MILL,)),
    (reads_back, (MILL,), (NO_MILL,)),
    (decided, (MILL,), (NO_MILL,)),
    (delays, (MILL,), (NO_MILL,)),
    (without, (MILL, (0,)), (NO_MILL, ("BadNumber",))),
    (honest_lots, (MILL,), (NO_MILL,)),
    (needed, (MILL,), (NO_MILL,)),
    (fault_reach, (MILL,), (NO_MILL,)),
    (heals, (MILL,), (NO_MILL,)),
    (letter_reach, (MILL,), (NO_MILL,)),
    (has_history, (MILL, LOOPING), (NO_MILL, ("BadLetters",))),
    (history_of, (MILL, LOOPING), (NO_MILL, ("BadLetters",))),
    (shows_history, (MILL, LOOPING, history_of(MILL, LOOPING)), (NO_MILL, ("BadLetters",), None)),
    (how_many, (MILL, LOOPING), (NO_MILL, ("BadLetters",))),
    (telling_of, (MILL, LOOPING), (NO_MILL, ("BadLetters",))),
    (steady, (MILL, 1), (NO_MILL, ("BadLetters",))),
    (keeps_on, (MILL, SPLIT), (NO_MILL, ("BadSplit",))),
    (friend_plan, (MILL, SPLIT), (NO_MILL, ("BadSplit",))),
    (enemy_ticks, (MILL, SPLIT), (NO_MILL, ("BadSplit",))),
    (lost_within, (MILL, (1, 2), 3), (NO_MILL, ("BadWeights",), ("BadNumber",))),
    (ever_lost, (MILL, (1, 2)), (NO_MILL, ("BadWeights",))),
    (mean_wait, (MILL, (1, 2)), (NO_MILL, ("BadWeights",))),
    (eager_mill, (MILL,), (NO_MILL,)),
    (run_eager, (EAGER, (0, 1)), (("BadEager", None), ("BadLetters",))),
    (shows_eager, (MILL, EAGER), (NO_MILL, None)),
    (fast, (MILL,), (NO_MILL,)),
    (bursts, (MILL,), (NO_MILL,)),
    (broken, (MILL, COLUMNS, 0), (NO_MILL, ("BadColumns", None), ("BadTick",))),
    (why_not, (samples.BARRED, (1, 1)), (NO_MILL, ("BadLetters",))))

# All functions that a mill must be honest for.
HONEST = (two_stories, late_mill, owed_most, fault_reach, heals, letter_reach, eager_mill, fast, bursts)

# All that ask for the windows of a mill, with arguments that fit any mill, or that are asked for behind them.
COUNTING = (
    (windows, ()), (live_windows, ()), (sets_through, ((0,),)), (paradox, ()), (is_paradox, ((0,),)),
    (closed_sets, ()), (shows_closed_sets, (None,)), (shows_closed_sets, ((),)), (free_choice, ()),
    (shows_free_choice, (None,)), (shows_free_choice, (7,)), (ranks, ()), (shows_ranks, (None,)),
    (shows_ranks, ((),)), (is_honest, ()), (least_delay, ()), (bound, ()), (two_stories, ()),
    (shows_two_stories, (None,)), (shows_two_stories, (((), ()),)), (late_mill, ()), (shows_late, (None,)),
    (shows_late, (LATE,)), (are_alike, (samples.AT_601,)), (unlike_word, (samples.AT_601,)),
    (open_tellings, ((0,),)), (sure, ((0,),)), (count_parts, ((0,),)), (owed_most, ()), (Bench, ()), (reads_back, ()),
    (decided, ()), (delays, ()), (honest_lots, ()), (needed, ()), (fault_reach, ()), (heals, ()), (letter_reach, ()),
    (has_history, (LOOPING,)), (history_of, (LOOPING,)), (shows_history, (LOOPING, None)), (shows_history, (LOOPING, 7)),
    (how_many, (LOOPING,)), (telling_of, (LOOPING,)), (keeps_on, (((0, 1, 2),),)), (friend_plan, (((0, 1, 2),),)),
    (enemy_ticks, (((0, 1, 2),),)), (lost_within, ((1, 1, 1), 0)), (ever_lost, ((1, 1, 1),)), (mean_wait, ((1, 1, 1),)),
    (eager_mill, ()), (shows_eager, (None,)), (shows_eager, (EAGER,)), (fast, ()), (bursts, ()), (why_not, ((0,),)))
# Without an equation of that mill, too, more windows come.
LESS_EQUATIONS = (honest_lots, needed)
# What asks for no windows.
UNCOUNTED = (
    (reach, ()), (holds, (((0, 1, 0, 0),), 0)), (tells, (((0, 1, 0, 0),),)), (is_history, (((), ((0, 1, 0, 0),)),)),
    (next_windows, ((0, ((0, 0, 0, 0),) * 2), 0)), (steady, (0,)), (broken, (((0, 1, 0, 0),), 0)),
    (written, (("x", "y", "z"),)), (without, ((0,),)))


class ArgumentsTest(unittest.TestCase):

    def test_the_leftmost_error_is_raised(self):
        for call, arguments, errors in CALLS:
            for at in range(len(arguments)):
                for wrong in (1, len(arguments) - at):
                    given = arguments[:at] + (None,) * wrong + arguments[at + wrong:]
                    self.assertEqual(samples.fields_of(call, *given), errors[at], (call, given))

    def test_of_columns_none_is_named_first(self):
        self.assertEqual(samples.fields_of(holds, MILL, (None,) * 201, None), ("BadColumns", None))
        self.assertEqual(samples.fields_of(holds, MILL, COLUMNS + (None,), None), ("BadColumns", 2))

    def test_too_many_comes_behind_all_others(self):
        mill = samples.AT_601
        self.assertEqual(samples.fields_of(sets_through, mill, (0,)), ("TooMany", 600))
        self.assertEqual(samples.fields_of(sets_through, mill, (3,)), ("BadLetters",))
        self.assertEqual(samples.fields_of(sets_through, mill, (0,) * 61), ("BadLetters",))
        self.assertEqual(samples.fields_of(windows, mill[:3]), ("BadMill", "mill"))

    def test_all_that_count_windows(self):
        for call, more in COUNTING:
            self.assertEqual(samples.fields_of(call, samples.AT_601, *more), ("TooMany", 600), call)
            if call not in (are_alike, unlike_word) + LESS_EQUATIONS:
                self.assertNotEqual(samples.fields_of(call, samples.AT_600, *more), ("TooMany", 600), call)
        self.assertEqual(samples.fields_of(is_paradox, samples.AT_601, (3,)), ("BadLetters",))
        self.assertIsNone(samples.fields_of(run_late, LATE, (0,)))

    def test_what_counts_no_windows(self):
        mill = samples.AT_601
        for call, more in UNCOUNTED:
            self.assertIsNone(samples.fields_of(call, mill, *more), call)
        self.assertEqual(reach(mill), (2, 0))
        self.assertIs(holds(mill, ((0, 1, 0, 0),), 0), True)
        self.assertEqual(tells(mill, ((0, 1, 0, 0),)), ((1,),))
        self.assertIs(is_history(mill, ((), ((0, 1, 0, 0),))), True)
        # Mills put together are mills, however many windows of these come: three names, at most six equations.
        wide = (3, ((3, 0), (3, 0)), (0,), ((("of", 0, -2), ("of", 1, 2)),))
        for call, arguments in ((beside, (wide, wide[:1] + (wide[1][:1],) + wide[2:3] + ((),))), (ringed, (wide,)),
                                (turned, (wide,)), (behind, (wide, (3, ((2, 0),), (0,), ())))):
            found = call(*arguments)
            self.assertIsNone(samples.fields_of(reach, found))
            self.assertEqual(samples.fields_of(windows, found), ("TooMany", 600), call)

    def test_not_honest_behind_all_arguments(self):
        for call in HONEST:
            for mill in (samples.LONE, samples.BARRED):
                self.assertEqual(samples.fields_of(call, mill), ("NotHonest",), call)
        for mill in (samples.LONE, samples.BARRED):
            self.assertEqual(samples.fields_of(mean_wait, mill, (0, 1)), ("BadWeights",))
            self.assertEqual(samples.fields_of(mean_wait, mill, (1, 1)), ("NotHonest",))
            for call in (shows_two_stories, shows_late, shows_eager):
                self.assertEqual(samples.fields_of(call, mill, None), ("NotHonest",))
            for call in (are_alike, unlike_word):
                self.assertEqual(samples.fields_of(call, mill, None), NO_MILL)
                self.assertEqual(samples.fields_of(call, mill, mill), ("NotHonest",))

    def test_the_first_wrong_part_of_a_mill(self):
        parts = (0, ((4, 0),), (7,), ((("is", 10), ("is", 0)),))
        words = ("letters", "names", "told", "equations")
        for call, arguments, errors in CALLS:
            for at, error in enumerate(errors):
                if error != NO_MILL:
                    continue
                for first in range(4):
                    mill = MILL[:first] + parts[first:]
                    given = arguments[:at] + (mill,) + (None,) * (len(arguments) - at - 1)
                    self.assertEqual(samples.fields_of(call, *given), ("BadMill", words[first]), call)

    def test_true_and_false_are_no_integers(self):
        for call, arguments in (
                (reach, ((True, ((2, 0),), (0,), ()),)), (reach, ((1, ((2, False),), (0,), ()),)),
                (reach, ((1, ((2, 0),), (False,), ()),)), (reach, ((1, ((2, 0),), (0,), ((("in", False),) * 2,)),)),
                (holds, (MILL, ((True, 0), (0, 0)), 0)), (holds, (MILL, COLUMNS, False)), (tells, (MILL, ((0, True),))),
                (next_windows, (MILL, (True, ((1, 0),)), 0)), (next_windows, (MILL, WINDOW, True)),
                (next_windows, (MILL, (1, ((True, 0),)), 0)), (sets_through, (MILL, (0, True)))):
            self.assertIsNotNone(samples.fields_of(call, *arguments), (call, arguments))
        self.assertIs(is_history(MILL, ((), ((True, True),))), False)
        self.assertIs(is_history(MILL, ((), ((1, 1),))), True)

    def test_any_value_may_be_passed(self):
        good = MILL
        for value in samples.NOTHINGS + ([[[]]], {"a": [()]}, {(): {}}, (((),),), samples.nested(30000)):
            for call, arguments, _ in CALLS:
                for at in range(len(arguments)):
                    # Any outcome will do here but an error that is none of the package.
                    samples.fields_of(call, *arguments[:at], value, *arguments[at + 1:])
            for at in range(4):
                samples.fields_of(windows, good[:at] + (value,) + good[at + 1:])

    def test_arguments_stay_the_same(self):
        wrong = [[2, [[2, 0]], [0], []], {0: [1]}, [(0, 0)], ([1, 0], [0])]
        for call, arguments, _ in CALLS:
            before = copy.deepcopy(arguments)
            call(*arguments)
            self.assertEqual(arguments, before)
            for value in wrong:
                for at in range(len(arguments)):
                    given = arguments[:at] + (value,) + arguments[at + 1:]
                    kept = copy.deepcopy(given)
                    samples.fields_of(call, *given)
                    self.assertEqual(given, kept)

    def test_two_calls_answer_the_same(self):
        others = (samples.PLAIN, samples.AHEAD_BARRED, samples.FREE)
        for call, arguments, _ in CALLS:
            first = call(*arguments)
            for other in others:
                # Whatever comes in between, by mills that have the same letters and names.
                samples.fields_of(call, other, *arguments[1:])
            self.assertEqual(call(*arguments), first)
            self.assertEqual(call(*copy.deepcopy(arguments)), first)

    def test_shows_answers_for_any_last_argument(self):
        strange = samples.NOTHINGS + ([[[]]], {"a": [()]}, {(): {}}, (((),),), samples.nested(30000), ({}, {}),
                                      (([],), ([],)), (((), ()), ((), ())), ((None,) * 2,) * 2)
        for call in (shows_closed_sets, shows_free_choice, shows_ranks, shows_two_stories, shows_late, shows_eager):
            for mill in (MILL, samples.PLAIN):
                for value in strange:
                    self.assertIn(call(mill, value), (True, False))
                    self.assertIsInstance(call(mill, value), bool)
        for word in (((), (0,)), LOOPING):
            for value in strange:
                self.assertIsInstance(shows_history(MILL, word, value), bool)
                self.assertIsInstance(shows_history(samples.BARRED, ((), (1,)), value), bool)


if __name__ == "__main__":
    unittest.main()
