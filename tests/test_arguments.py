"""What point 1 says of the arguments of every function."""

import copy
import unittest

import samples
from merelylate.benches import Bench
from merelylate.choices import (
    bound, free_choice, is_honest, least_delay, ranks, shows_free_choice, shows_ranks, shows_two_stories, two_stories)
from merelylate.futures import count_parts, open_tellings, owed_most, sure
from merelylate.joins import behind, beside, reads_back, ringed, turned
from merelylate.late import are_alike, late_mill, run_late, shows_late, unlike_word
from merelylate.mills import holds, is_history, reach, tells
from merelylate.paradoxes import closed_sets, is_paradox, paradox, shows_closed_sets
from merelylate.texts import read_mill, written
from merelylate.windows import live_windows, next_windows, sets_through, windows

MILL = samples.AHEAD
WINDOW = (1, ((1, 0),))
COLUMNS = ((1, 0), (0, 1))

NO_MILL = ("BadMill", "mill")
TEXT = "letters 2\nname x 2 from 0\ntells x\nx = in@+1\n"
LATE = (((1, None), (1, None)), ((1, (0,)), (1, (1,))))

# For each function good arguments, and the error for None in the place of each.
CALLS = (
    (reach, (MILL,), (("BadMill", "mill"),)),
    (holds, (MILL, COLUMNS, 0), (("BadMill", "mill"), ("BadColumns", None), ("BadTick",))),
    (tells, (MILL, COLUMNS), (("BadMill", "mill"), ("BadColumns", None))),
    (is_history, (MILL, ((), COLUMNS)), (("BadMill", "mill"), None)),
    (windows, (MILL,), (("BadMill", "mill"),)),
    (live_windows, (MILL,), (("BadMill", "mill"),)),
    (next_windows, (MILL, WINDOW, 0), (("BadMill", "mill"), ("BadWindow",), ("BadLetters",))),
    (sets_through, (MILL, (0, 1)), (("BadMill", "mill"), ("BadLetters",))),
    (paradox, (MILL,), (NO_MILL,)),
    (is_paradox, (MILL, (0, 1)), (NO_MILL, ("BadLetters",))),
    (closed_sets, (MILL,), (NO_MILL,)),
    (shows_closed_sets, (MILL, closed_sets(MILL)), (NO_MILL, None)),
    (free_choice, (MILL,), (NO_MILL,)),
    (shows_free_choice, (MILL, (((), ((0, 0),)),) * 2), (NO_MILL, None)),
    (ranks, (MILL,), (NO_MILL,)),
    (shows_ranks, (MILL, ranks(MILL)), (NO_MILL, None)),
    (is_honest, (MILL,), (NO_MILL,)),
    (least_delay, (MILL,), (NO_MILL,)),
    (bound, (MILL,), (NO_MILL,)),
    (two_stories, (MILL,), (NO_MILL,)),
    (shows_two_stories, (MILL, (((1, 0),), ((1, 1),))), (NO_MILL, None)),
    (late_mill, (MILL,), (NO_MILL,)),
    (run_late, (LATE, (0, 1)), (("BadLate", None), ("BadLetters",))),
    (shows_late, (MILL, LATE), (NO_MILL, None)),
    (are_alike, (MILL, MILL), (NO_MILL, NO_MILL)),
    (unlike_word, (MILL, MILL), (NO_MILL, NO_MILL)),
    (open_tellings, (MILL, (0, 1)), (NO_MILL, ("BadLetters",))),
    (sure, (MILL, (0, 1)), (NO_MILL, ("BadLetters",))),
    (count_parts, (MILL, (0, 1)), (NO_MILL, ("BadLetters",))),
    (owed_most, (MILL,), (NO_MILL,)),
    (written, (MILL, ("x",)), (NO_MILL, ("BadWords",))),
    (read_mill, (TEXT,), (("BadText", 0),)),
    (behind, (MILL, MILL), (NO_MILL, NO_MILL)),
    (beside, (MILL, MILL), (NO_MILL, NO_MILL)),
    (ringed, (MILL,), (NO_MILL,)),
    (turned, (MILL,), (NO_MILL,)),
    (reads_back, (MILL,), (NO_MILL,)))

# All that ask for the windows of a mill, with arguments that fit any mill, or that are asked for behind them.
COUNTING = (
    (windows, ()), (live_windows, ()), (sets_through, ((0,),)), (paradox, ()), (is_paradox, ((0,),)),
    (closed_sets, ()), (shows_closed_sets, (None,)), (shows_closed_sets, ((),)), (free_choice, ()),
    (shows_free_choice, (None,)), (shows_free_choice, (7,)), (ranks, ()), (shows_ranks, (None,)),
    (shows_ranks, ((),)), (is_honest, ()), (least_delay, ()), (bound, ()), (two_stories, ()),
    (shows_two_stories, (None,)), (shows_two_stories, (((), ()),)), (late_mill, ()), (shows_late, (None,)),
    (shows_late, (LATE,)), (are_alike, (samples.AT_601,)), (unlike_word, (samples.AT_601,)),
    (open_tellings, ((0,),)), (sure, ((0,),)), (count_parts, ((0,),)), (owed_most, ()), (Bench, ()), (reads_back, ()))


class ArgumentsTest(unittest.TestCase):

    def test_the_leftmost_error_is_raised(self):
        for call, arguments, errors in CALLS:
            for at in range(len(arguments)):
                for wrong in (1, len(arguments) - at):
                    given = arguments[:at] + (None,) * wrong + arguments[at + wrong:]
                    self.assertEqual(samples.fields_of(call, *given), errors[at], (call, given))

    def test_of_columns_none_is_named_first(self):
        self.assertEqual(samples.fields_of(holds, MILL, (None,) * 201, None), ("BadColumns", None))
        self.assertEqual(samples.fields_of(holds, MILL, COLUMNS + (None,), None), ("BadColumns", 2))

    def test_too_many_comes_behind_all_others(self):
        mill = samples.AT_601
        self.assertEqual(samples.fields_of(sets_through, mill, (0,)), ("TooMany", 600))
        self.assertEqual(samples.fields_of(sets_through, mill, (3,)), ("BadLetters",))
        self.assertEqual(samples.fields_of(sets_through, mill, (0,) * 61), ("BadLetters",))
        self.assertEqual(samples.fields_of(windows, mill[:3]), ("BadMill", "mill"))

    def test_all_that_count_windows(self):
        for call, more in COUNTING:
            self.assertEqual(samples.fields_of(call, samples.AT_601, *more), ("TooMany", 600), call)
            if call not in (are_alike, unlike_word):
                self.assertNotEqual(samples.fields_of(call, samples.AT_600, *more), ("TooMany", 600), call)
        self.assertEqual(samples.fields_of(is_paradox, samples.AT_601, (3,)), ("BadLetters",))
        self.assertIsNone(samples.fields_of(run_late, LATE, (0,)))

    def test_points_2_and_3_count_no_windows(self):
        mill = samples.AT_601
        column = (0, 1, 0, 0)
        self.assertEqual(reach(mill), (2, 0))
        self.assertIs(holds(mill, (column,), 0), True)
        self.assertEqual(tells(mill, (column,)), ((1,),))
        self.assertIs(is_history(mill, ((), (column,))), True)

    def test_true_and_false_are_no_integers(self):
        for call, arguments in (
                (reach, ((True, ((2, 0),), (0,), ()),)), (reach, ((1, ((2, False),), (0,), ()),)),
                (reach, ((1, ((2, 0),), (False,), ()),)), (reach, ((1, ((2, 0),), (0,), ((("in", False),) * 2,)),)),
                (holds, (MILL, ((True, 0), (0, 0)), 0)), (holds, (MILL, COLUMNS, False)), (tells, (MILL, ((0, True),))),
                (next_windows, (MILL, (True, ((1, 0),)), 0)), (next_windows, (MILL, WINDOW, True)),
                (next_windows, (MILL, (1, ((True, 0),)), 0)), (sets_through, (MILL, (0, True)))):
            self.assertIsNotNone(samples.fields_of(call, *arguments), (call, arguments))
        self.assertIs(is_history(MILL, ((), ((True, True),))), False)
        self.assertIs(is_history(MILL, ((), ((1, 1),))), True)

    def test_any_value_may_be_passed(self):
        good = MILL
        for value in samples.NOTHINGS + ([[[]]], {"a": [()]}, {(): {}}, (((),),), samples.nested(30000)):
            for call, arguments, _ in CALLS:
                for at in range(len(arguments)):
                    # Any outcome will do here but an error that is none of the package.
                    samples.fields_of(call, *arguments[:at], value, *arguments[at + 1:])
            for at in range(4):
                samples.fields_of(windows, good[:at] + (value,) + good[at + 1:])

    def test_arguments_stay_the_same(self):
        wrong = [[2, [[2, 0]], [0], []], {0: [1]}, [(0, 0)], ([1, 0], [0])]
        for call, arguments, _ in CALLS:
            before = copy.deepcopy(arguments)
            call(*arguments)
            self.assertEqual(arguments, before)
            for value in wrong:
                for at in range(len(arguments)):
                    given = arguments[:at] + (value,) + arguments[at + 1:]
                    kept = copy.deepcopy(given)
                    samples.fields_of(call, *given)
                    self.assertEqual(given, kept)

    def test_two_calls_answer_the_same(self):
        others = (samples.PLAIN, samples.AHEAD_BARRED, samples.FREE)
        for call, arguments, _ in CALLS:
            first = call(*arguments)
            for other in others:
                # Whatever comes in between, by mills that have the same letters and names.
                samples.fields_of(call, other, *arguments[1:])
            self.assertEqual(call(*arguments), first)
            self.assertEqual(call(*copy.deepcopy(arguments)), first)

    def test_shows_answers_for_any_last_argument(self):
        strange = samples.NOTHINGS + ([[[]]], {"a": [()]}, {(): {}}, (((),),), samples.nested(30000), ({}, {}),
                                      (([],), ([],)), (((), ()), ((), ())), ((None,) * 2,) * 2)
        for call in (shows_closed_sets, shows_free_choice, shows_ranks, shows_two_stories, shows_late):
            for mill in (MILL, samples.PLAIN):
                for value in strange:
                    self.assertIn(call(mill, value), (True, False))
                    self.assertIsInstance(call(mill, value), bool)


if __name__ == "__main__":
    unittest.main()
