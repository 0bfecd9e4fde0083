"""The examples of the interface, word for word."""

import unittest

from merelylate.benches import Bench
from merelylate.chances import ever_lost, lost_within, mean_wait
from merelylate.choices import (
    bound, free_choice, is_honest, least_delay, ranks, shows_free_choice, shows_ranks, shows_two_stories, two_stories)
from merelylate.eager import bursts, eager_mill, fast, run_eager, shows_eager
from merelylate.errors import BadLate, BadLetters, BadMill, BadStep, NotHonest
from merelylate.friends import enemy_ticks, friend_plan, keeps_on
from merelylate.futures import count_parts, open_tellings, owed_most, sure
from merelylate.late import are_alike, late_mill, run_late, shows_late, unlike_word
from merelylate.loops import has_history, history_of, how_many, shows_history, steady, telling_of
from merelylate.mills import holds, is_history, reach, tells
from merelylate.paradoxes import closed_sets, is_paradox, paradox, shows_closed_sets
from merelylate.reports import broken, why_not
from merelylate.windows import live_windows, next_windows, sets_through, windows


class ExamplesTest(unittest.TestCase):

    def test_mills(self):
        ahead = (2, ((2, 0),), (0,), ((("of", 0, 0), ("in", 1)),))
        self.assertEqual(
            [reach(ahead), holds(ahead, ((1, 0), (0, 1)), 0), holds(ahead, ((1, 1), (0, 1)), 0),
             tells(ahead, ((1, 0), (0, 1)))],
            [(0, 1), True, False, ((0,), (1,))])
        self.assertIs(is_history(ahead, (((1, 0),), ((0, 0),))), True)
        with self.assertRaises(BadMill) as caught:
            reach((2, ((2, 0),), (1,), ()))
        self.assertEqual(caught.exception.part, "told")

    def test_windows(self):
        ahead = (2, ((2, 0),), (0,), ((("of", 0, 0), ("in", 1)),))
        self.assertEqual(
            [len(windows(ahead)), len(live_windows(ahead)), next_windows(ahead, (0, ((0, 0),)), 1),
             next_windows(ahead, (1, ((1, 0),)), 1)],
            [5, 5, ((1, ((1, 0),)), (1, ((1, 1),))), ()])
        self.assertEqual(
            sets_through(ahead, (1, 0)),
            (((0, ((0, 0),)),), ((1, ((1, 0),)), (1, ((1, 1),))), ((1, ((0, 0),)), (1, ((0, 1),)))))

    def test_paradoxes(self):
        barred = (2, ((2, 0),), (0,), (
            (("is", 0), ("times", ("in", 0), ("in", 1))), (("of", 0, 0), ("in", 0))))
        self.assertEqual(
            [paradox(barred), is_paradox(barred, (0, 1, 1, 0)), is_paradox(barred, (1, 0)), closed_sets(barred)],
            [(1, 1), True, False, None])
        ahead = (2, ((2, 0),), (0,), ((("of", 0, 0), ("in", 1)),))
        self.assertEqual(
            [paradox(ahead), len(closed_sets(ahead)), shows_closed_sets(ahead, closed_sets(ahead))], [None, 3, True])

    def test_choices(self):
        lone = (2, ((2, 0),), (0,), ((("of", 0, 0), ("of", 0, 1)),))
        self.assertEqual(
            [shows_free_choice(lone, (((), ((0, 0),)), ((), ((0, 1),)))), is_honest(lone), ranks(lone)],
            [True, False, None])
        ahead = (2, ((2, 0),), (0,), ((("of", 0, 0), ("in", 1)),))
        self.assertEqual(
            [free_choice(ahead), least_delay(ahead), bound(ahead),
             shows_two_stories(ahead, (((1, 0),), ((1, 1),))), shows_ranks(ahead, ranks(ahead))],
            [None, 1, 10, True, True])
        self.assertEqual(
            ranks(ahead),
            ((((1, ((0, 0),)), (1, ((0, 1),))), 0), (((1, ((1, 0),)), (1, ((1, 1),))), 0)))
        with self.assertRaises(NotHonest):
            two_stories(lone)

    def test_late(self):
        ahead = (2, ((2, 0),), (0,), ((("of", 0, 0), ("in", 1)),))
        plain = (2, ((2, 0),), (0,), ((("of", 0, 0), ("in", 0)),))
        self.assertEqual(
            [late_mill(ahead), run_late(late_mill(ahead), (0, 1, 1, 0)), shows_late(ahead, late_mill(ahead))],
            [(((1, None), (1, None)), ((1, (0,)), (1, (1,)))), (None, (1,), (1,), (0,)), True])
        self.assertEqual(
            [are_alike(ahead, plain), unlike_word(ahead, plain), late_mill(plain)],
            [False, (0, 1), (((0, (0,)), (0, (1,))),)])
        with self.assertRaises(BadLate) as caught:
            run_late((((1, None),),), (0,))
        self.assertEqual(caught.exception.index, 0)

    def test_futures(self):
        ahead = (2, ((2, 0),), (0,), ((("of", 0, 0), ("in", 1)),))
        self.assertEqual(
            [open_tellings(ahead, (1, 0)), sure(ahead, (1, 0)), count_parts(ahead, (1, 0, 1)), owed_most(ahead)],
            [(((0,), (0,)), ((0,), (1,))), ((0,), None), 2, ((0,), 1)])

    def test_benches(self):
        bench = Bench((2, ((2, 0),), (0,), ((("of", 0, 0), ("in", 1)),)))
        self.assertEqual(
            [bench.read(1), bench.left, bench.read(0), bench.sure(), bench.back(), bench.letters],
            [((0,), (1,)), (((1, 0),), ((1, 1),)), ((0,), (1,)), ((1, 0), None), None, (1,)])
        other = Bench((2, ((2, 0),), (0,), ((("of", 0, 0), ("in", 1)),)))
        self.assertEqual(
            [other.read(1), other.choose(((1, 1),)), other.left, other.read(1), other.sure()],
            [((0,), (1,)), None, (((1, 1),),), ((0,), (1,)), ((1, 1), None)])
        with self.assertRaises(BadStep):
            Bench((2, ((2, 0),), (0,), ())).back()

    def test_loops(self):
        ahead = (2, ((2, 0),), (0,), ((("of", 0, 0), ("in", 1)),))
        self.assertEqual(
            [has_history(ahead, ((), (0, 1))), how_many(ahead, ((), (0, 1))), telling_of(ahead, ((), (0, 1))),
             steady(ahead, 1)],
            [True, 1, ((), ((1,), (0,))), ((1, 1),)])
        self.assertEqual(
            [how_many((1, ((2, 0),), (0,), ()), ((), (0,))),
             how_many((1, ((2, 0),), (0,), ((("of", 0, 0), ("of", 0, 1)),)), ((), (0,)))],
            ["endless", 2])
        self.assertIs(shows_history(ahead, ((1,), (0,)), history_of(ahead, ((1,), (0,)))), True)

    def test_friends(self):
        barred = (2, ((2, 0),), (0,), (
            (("is", 0), ("times", ("in", 0), ("in", 1))), (("of", 0, 0), ("in", 0))))
        self.assertEqual(
            [keeps_on(barred, ((0,), (1,))), enemy_ticks(barred, ((0,), (1,))), keeps_on(barred, ((0, 1),)),
             len(friend_plan(barred, ((0, 1),)))],
            [False, 2, True, 2])

    def test_chances(self):
        barred = (2, ((2, 0),), (0,), (
            (("is", 0), ("times", ("in", 0), ("in", 1))), (("of", 0, 0), ("in", 0))))
        self.assertEqual(
            [lost_within(barred, (1, 1), 2), lost_within(barred, (1, 1), 3), ever_lost(barred, (2, 1))],
            [(1, 4), (3, 8), (1, 1)])
        self.assertEqual(
            [mean_wait((2, ((2, 0),), (0,), ((("of", 0, 0), ("in", 1)),)), (1, 3)),
             ever_lost((2, ((2, 0),), (0,), ()), (1, 1))],
            [(1, 1), (0, 1)])

    def test_eager(self):
        ahead = (2, ((2, 0),), (0,), ((("of", 0, 0), ("in", 1)),))
        self.assertEqual(
            [run_eager(eager_mill(ahead), (1, 0, 1)), bursts(ahead), fast(ahead), shows_eager(ahead, eager_mill(ahead))],
            [((), ((0,),), ((1,),)), 1, (), True])
        mixed = (2, ((2, 0),), (0,), ((("of", 0, 0), ("pick", ("in", 0), ("is", 1), ("in", 1))),))
        self.assertEqual(
            [eager_mill(mixed), run_eager(eager_mill(mixed), (1, 0, 1, 1))],
            [(((1, ()), (0, ((1,),))), ((1, ((0,),)), (0, ((1,), (1,))))), (((1,),), (), ((1,), (1,)), ((1,),))])

    def test_reports(self):
        barred = (2, ((2, 0),), (0,), (
            (("is", 0), ("times", ("in", 0), ("in", 1))), (("of", 0, 0), ("in", 0))))
        self.assertEqual(broken(barred, ((1, 0), (1, 1)), 0), (0, 1))
        self.assertEqual(
            why_not(barred, (1, 1)),
            ("tick 0: letter 1: from 1 to 1", "tick 1: letter 1: from 1 to 0", "after 1,1 then 1,0: equation 0 fails",
             "after 1,1 then 1,1: equation 0 fails"))
        with self.assertRaises(BadLetters):
            why_not(barred, (1, 0))


if __name__ == "__main__":
    unittest.main()
