"""The examples of the interface, word for word."""

import unittest

from merelylate.benches import Bench
from merelylate.choices import (
    bound, free_choice, is_honest, least_delay, ranks, shows_free_choice, shows_ranks, shows_two_stories, two_stories)
from merelylate.errors import BadLate, BadMill, BadStep, NotHonest
from merelylate.futures import count_parts, open_tellings, owed_most, sure
from merelylate.late import are_alike, late_mill, run_late, shows_late, unlike_word
from merelylate.mills import holds, is_history, reach, tells
from merelylate.paradoxes import closed_sets, is_paradox, paradox, shows_closed_sets
from merelylate.windows import live_windows, next_windows, sets_through, windows


class ExamplesTest(unittest.TestCase):

    def test_mills(self):
        ahead = (2, ((2, 0),), (0,), ((("of", 0, 0), ("in", 1)),))
        self.assertEqual(
            [reach(ahead), holds(ahead, ((1, 0), (0, 1)), 0), holds(ahead, ((1, 1), (0, 1)), 0),
             tells(ahead, ((1, 0), (0, 1)))],
            [(0, 1), True, False, ((0,), (1,))])
        self.assertIs(is_history(ahead, (((1, 0),), ((0, 0),))), True)
        with self.assertRaises(BadMill) as caught:
            reach((2, ((2, 0),), (1,), ()))
        self.assertEqual(caught.exception.part, "told")

    def test_windows(self):
        ahead = (2, ((2, 0),), (0,), ((("of", 0, 0), ("in", 1)),))
        self.assertEqual(
            [len(windows(ahead)), len(live_windows(ahead)), next_windows(ahead, (0, ((0, 0),)), 1),
             next_windows(ahead, (1, ((1, 0),)), 1)],
            [5, 5, ((1, ((1, 0),)), (1, ((1, 1),))), ()])
        self.assertEqual(
            sets_through(ahead, (1, 0)),
            (((0, ((0, 0),)),), ((1, ((1, 0),)), (1, ((1, 1),))), ((1, ((0, 0),)), (1, ((0, 1),)))))

    def test_paradoxes(self):
        barred = (2, ((2, 0),), (0,), (
            (("is", 0), ("times", ("in", 0), ("in", 1))), (("of", 0, 0), ("in", 0))))
        self.assertEqual(
            [paradox(barred), is_paradox(barred, (0, 1, 1, 0)), is_paradox(barred, (1, 0)), closed_sets(barred)],
            [(1, 1), True, False, None])
        ahead = (2, ((2, 0),), (0,), ((("of", 0, 0), ("in", 1)),))
        self.assertEqual(
            [paradox(ahead), len(closed_sets(ahead)), shows_closed_sets(ahead, closed_sets(ahead))], [None, 3, True])

    def test_choices(self):
        lone = (2, ((2, 0),), (0,), ((("of", 0, 0), ("of", 0, 1)),))
        self.assertEqual(
            [shows_free_choice(lone, (((), ((0, 0),)), ((), ((0, 1),)))), is_honest(lone), ranks(lone)],
            [True, False, None])
        ahead = (2, ((2, 0),), (0,), ((("of", 0, 0), ("in", 1)),))
        self.assertEqual(
            [free_choice(ahead), least_delay(ahead), bound(ahead),
             shows_two_stories(ahead, (((1, 0),), ((1, 1),))), shows_ranks(ahead, ranks(ahead))],
            [None, 1, 10, True, True])
        self.assertEqual(
            ranks(ahead),
            ((((1, ((0, 0),)), (1, ((0, 1),))), 0), (((1, ((1, 0),)), (1, ((1, 1),))), 0)))
        with self.assertRaises(NotHonest):
            two_stories(lone)

    def test_late(self):
        ahead = (2, ((2, 0),), (0,), ((("of", 0, 0), ("in", 1)),))
        plain = (2, ((2, 0),), (0,), ((("of", 0, 0), ("in", 0)),))
        self.assertEqual(
            [late_mill(ahead), run_late(late_mill(ahead), (0, 1, 1, 0)), shows_late(ahead, late_mill(ahead))],
            [(((1, None), (1, None)), ((1, (0,)), (1, (1,)))), (None, (1,), (1,), (0,)), True])
        self.assertEqual(
            [are_alike(ahead, plain), unlike_word(ahead, plain), late_mill(plain)],
            [False, (0, 1), (((0, (0,)), (0, (1,))),)])
        with self.assertRaises(BadLate) as caught:
            run_late((((1, None),),), (0,))
        self.assertEqual(caught.exception.index, 0)

    def test_futures(self):
        ahead = (2, ((2, 0),), (0,), ((("of", 0, 0), ("in", 1)),))
        self.assertEqual(
            [open_tellings(ahead, (1, 0)), sure(ahead, (1, 0)), count_parts(ahead, (1, 0, 1)), owed_most(ahead)],
            [(((0,), (0,)), ((0,), (1,))), ((0,), None), 2, ((0,), 1)])

    def test_benches(self):
        bench = Bench((2, ((2, 0),), (0,), ((("of", 0, 0), ("in", 1)),)))
        self.assertEqual(
            [bench.read(1), bench.left, bench.read(0), bench.sure(), bench.back(), bench.letters],
            [((0,), (1,)), (((1, 0),), ((1, 1),)), ((0,), (1,)), ((1, 0), None), None, (1,)])
        other = Bench((2, ((2, 0),), (0,), ((("of", 0, 0), ("in", 1)),)))
        self.assertEqual(
            [other.read(1), other.choose(((1, 1),)), other.left, other.read(1), other.sure()],
            [((0,), (1,)), None, (((1, 1),),), ((0,), (1,)), ((1, 1), None)])
        with self.assertRaises(BadStep):
            Bench((2, ((2, 0),), (0,), ())).back()


if __name__ == "__main__":
    unittest.main()
