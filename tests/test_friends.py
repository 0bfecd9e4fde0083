"""Point 15: letters of a friend and of an enemy."""

import itertools
import unittest
import unittest.mock

import samples
from naive import Slow, small
from merelylate.friends import enemy_ticks, friend_plan, keeps_on
from merelylate.paradoxes import closed_sets
from merelylate.windows import sets_through

OF, IN = ("of", 0, 0), ("in", 0)
CALLS = (keeps_on, friend_plan, enemy_ticks)
SPLITS = {1: (((0,),),), 2: (((0, 1),), ((0,), (1,))),
          3: (((0, 1, 2),), ((0,), (1, 2)), ((0, 1), (2,)), ((0, 2), (1,)), ((0,), (1,), (2,)))}
# Behind 2 comes 0, or nothing: 1 and 2 are lost.
ZERO_BEHIND_2 = (3, ((2, 0),), (0,), ((("is", 0), ("pick", ("same", IN, ("is", 2)), ("in", 1), ("is", 0))), (OF, ("is", 1))))
# No letter twice in a row.
NEVER_TWICE = (3, ((2, 0),), (0,), ((("same", IN, ("in", 1)), ("is", 0)), (OF, ("is", 0))))
# The letters 1 and 2 together at most twice, of which any number of 0 may stand.
AT_MOST_TWICE = (3, ((3, 0),), (0,), ((OF, ("plus", ("of", 0, -1), ("less", ("is", 0), IN))),))
# More than 2000 sets of live windows come.
MANY_SETS = samples.MANY_SETS_TOLD_0


class Play(Slow):
    """What an enemy and a friend come to, letter by letter, to any depth."""

    def __init__(self, mill, split):
        super().__init__(mill)
        self.split = split
        self.sets = self.all_sets() | {()}
        self.lost = [{()}]
        while len(self.lost) <= len(self.sets):
            self.lost.append({one for one in self.sets if one == () or any(
                all(self.behind(one, letter) in self.lost[-1] for letter in part) for part in self.split)})

    def ticks(self):
        """The first number of ticks within which the enemy gets the empty set."""
        return next((many for many, lost in enumerate(self.lost) if self.set_of(()) in lost), None)

    def plan(self):
        """The sets that come by the friend's least letters, in rounds."""
        if self.set_of(()) in self.lost[-1]:
            return None
        plan, fresh = {}, {self.set_of(())}
        while fresh:
            for one in fresh:
                plan[one] = tuple(min(letter for letter in part if self.behind(one, letter) not in self.lost[-1])
                                  for part in self.split)
            fresh = {self.behind(one, letter) for one in fresh for letter in plan[one]} - set(plan)
        return tuple(sorted(plan.items()))


class SplitTest(unittest.TestCase):

    def test_splits(self):
        for letters, splits in SPLITS.items():
            mill = (letters, ((2, 0),), (0,), ())
            for split in splits:
                self.assertIs(keeps_on(mill, split), True)
                self.assertIsNone(enemy_ticks(mill, split))
                self.assertEqual(len(friend_plan(mill, split)), 1 + len({part[0] for part in split}))

    def test_values_that_are_none(self):
        for letters in range(1, 4):
            mill = (letters, ((2, 0),), (0,), ())
            wrong = {split for other in SPLITS for split in SPLITS[other] if other != letters}
            for split in tuple(wrong) + samples.NOTHINGS + (
                    ((0,), ()), ((), (0,)), ((),), (0, 1, 2), (0,), ((1, 0),), ((1,), (0,)), ((1,), (0,), (2,)),
                    ((0, 2, 1),), ((1, 2), (0,)), ((0, 0),), ((0,), (0,)), ((0, 1), (1,)), ((0, 1), (1, 2)), ((0, 1, 1),),
                    ((0,), (1,), (1,)), ((0, 1, 2, 3),), ((0, 1, 2), (3,)), ((-1, 0),), [(0,), (1,)], ([0, 1],), ([0],),
                    ((False,),), ((0, True),), ((False, True),), (("0",),), ((None,),), (((0,),),), "0", ("0", "1"),
                    ((0,), (1,), (2,), (3,)), ((0, 1), (2, 3)), samples.nested(30000), {(0,): (1,)}, ((0.0,),)):
                if split in SPLITS[letters]:
                    continue
                for call in CALLS:
                    self.assertEqual(samples.fields_of(call, mill, split), ("BadSplit",), split)

    def test_a_wrong_mill_first(self):
        for call in CALLS:
            self.assertEqual(samples.fields_of(call, None, None), ("BadMill", "mill"))
            self.assertEqual(samples.fields_of(call, samples.AT_601, None), ("BadSplit",))
            self.assertEqual(samples.fields_of(call, samples.AT_601, ((0, 1, 2),)), ("TooMany", 600))
            self.assertEqual(samples.fields_of(call, MANY_SETS, None), ("BadSplit",))


class GameTest(unittest.TestCase):

    def all_three(self, mill, split):
        return [keeps_on(mill, split), enemy_ticks(mill, split), friend_plan(mill, split)]

    def test_one_tuple_with_all_letters(self):
        start, zero = ((0, ((0, 0),)),), ((1, ((0, 0),)),)
        self.assertEqual(self.all_three(samples.BARRED, ((0, 1),)), [True, None, ((start, (0,)), (zero, (0,)))])

    def test_one_tuple_for_each_letter(self):
        self.assertEqual(self.all_three(samples.BARRED, ((0,), (1,))), [False, 2, None])
        self.assertEqual(self.all_three(ZERO_BEHIND_2, ((0,), (1,), (2,))), [False, 2, None])
        self.assertEqual(self.all_three(AT_MOST_TWICE, ((0,), (1,), (2,))), [False, 3, None])
        self.assertEqual(keeps_on(samples.AHEAD, ((0,), (1,))), True)

    def test_splits_between(self):
        # The enemy can make the friend read 2 alone, and then 1.
        for split, ticks in ((((0, 1), (2,)), 2), (((0,), (1, 2)), None), (((0, 2), (1,)), None), (((0, 1, 2),), None)):
            self.assertEqual(enemy_ticks(ZERO_BEHIND_2, split), ticks)
            self.assertIs(keeps_on(ZERO_BEHIND_2, split), ticks is None)
        for split, ticks in ((((0, 1), (2,)), 2), (((0,), (1, 2)), 2), (((0, 1, 2),), None)):
            self.assertEqual(enemy_ticks(NEVER_TWICE, split), ticks)

    def test_only_some_tuples_are_lost(self):
        # Within a tuple of two letters the friend never reads one twice; by the one letter 2 it is lost the second time.
        self.assertIs(keeps_on(NEVER_TWICE, ((0, 1), (2,))), False)
        self.assertIsNone(friend_plan(NEVER_TWICE, ((0, 1), (2,))))
        self.assertEqual(sets_through(NEVER_TWICE, (2, 2))[2], ())
        self.assertNotEqual(sets_through(NEVER_TWICE, (2, 1))[2], ())

    def test_the_least_letter_among_several(self):
        plan = friend_plan(NEVER_TWICE, ((0, 1, 2),))
        self.assertEqual([letters for _, letters in plan], [(0,), (1,), (0,)])
        # The letter 0 is barred at all, so that it is 1 for ever.
        mill = (3, ((2, 0),), (0,), ((("less", ("is", 0), IN), ("is", 1)), (OF, ("is", 0))))
        self.assertEqual([letters for _, letters in friend_plan(mill, ((0, 1), (2,)))], [(1, 2)] * 3)
        self.assertEqual(enemy_ticks(mill, ((0,), (1, 2))), 1)

    def test_a_letter_that_only_seems_to_go_on(self):
        # Behind the letter 0 comes no 0 for two ticks, and the enemy can make the friend read it.
        mill = (3, ((2, 0),), (0,), ((("is", 0), ("plus", ("times", ("same", IN, ("is", 0)), ("same", ("in", 2), ("is", 0))), (
            "times", ("same", IN, ("is", 0)), ("same", ("in", 1), ("is", 0))))), (OF, ("is", 0))))
        self.assertEqual(enemy_ticks(mill, ((0,), (1, 2))), 2)
        self.assertEqual(friend_plan(mill, ((0, 1, 2),)), Play(mill, ((0, 1, 2),)).plan())

    def test_the_start_is_empty_already(self):
        self.assertEqual(self.all_three(samples.STUCK, ((0,),)), [False, 0, None])
        barred = (2, ((2, 0),), (0,), ((("is", 0), ("is", 1)),))
        for split in SPLITS[2]:
            self.assertEqual(self.all_three(barred, split), [False, 0, None])

    def test_the_plan_keeps_off_the_paradoxes(self):
        for mill, split in ((NEVER_TWICE, ((0, 1, 2),)), (ZERO_BEHIND_2, ((0, 2), (1,))), (AT_MOST_TWICE, ((0, 1, 2),)),
                            (samples.BARRED, ((0, 1),)), (samples.AHEAD, ((0,), (1,)))):
            plan = dict(friend_plan(mill, split))
            self.assertEqual(list(plan), sorted(plan))
            for played in itertools.product(range(len(split)), repeat=6):
                word = ()
                for number in played:
                    letter = plan[sets_through(mill, word)[-1]][number]
                    self.assertIn(letter, split[number])
                    word += (letter,)
                self.assertNotEqual(sets_through(mill, word)[-1], ())

    def test_the_same_by_plain_steps(self):
        found = set()
        mills = samples.random_mills(181, 250) + samples.random_mills(182, 150, 0, 1) + samples.likely_mills(183, 200)
        mills += [(3,) + mill[1:] for mill in samples.random_mills(184, 150, -1, 1)] + [
            NEVER_TWICE, ZERO_BEHIND_2, AT_MOST_TWICE, samples.BARRED, samples.STUCK, samples.AHEAD_BARRED]
        for mill in small(mills, 40):
            if len(Slow(mill).all_sets()) > 60:
                continue
            for split in SPLITS[mill[0]]:
                play = Play(mill, split)
                ticks = play.ticks()
                self.assertEqual(enemy_ticks(mill, split), ticks, (mill, split))
                self.assertIs(keeps_on(mill, split), ticks is None)
                self.assertEqual(friend_plan(mill, split), play.plan(), (mill, split))
                found.add((ticks, len(split)))
        self.assertLessEqual({(None, 1), (None, 2), (None, 3), (0, 1), (1, 2), (2, 2), (1, 3), (2, 3), (3, 3)}, found)


class TooManyTest(unittest.TestCase):

    def test_too_many_sets(self):
        for call in CALLS:
            for split in SPLITS[2]:
                self.assertEqual(samples.fields_of(call, MANY_SETS, split), ("TooMany", 2000))
                self.assertEqual(samples.fields_of(call, samples.MANY_SETS, split), ("TooMany", 2000))

    def test_the_limit_is_reached(self):
        for mill in (samples.AHEAD, samples.NEXT_BUT_ONE, samples.counting(2)):
            many = len(closed_sets(mill))
            for call in CALLS:
                with unittest.mock.patch("merelylate.friends.MOST_SETS", many):
                    self.assertIsNone(samples.fields_of(call, mill, ((0,), (1,))))
                with unittest.mock.patch("merelylate.friends.MOST_SETS", many - 1):
                    self.assertEqual(samples.fields_of(call, mill, ((0,), (1,))), ("TooMany", many - 1))

    def test_sets_behind_a_paradox_count_too(self):
        # The sets of the start, of 0 and of 1: by (1, 1) the empty one comes, which isn't counted.
        for most in (2, 3):
            with unittest.mock.patch("merelylate.friends.MOST_SETS", most):
                wanted = None if most == 3 else ("TooMany", 2)
                self.assertEqual(samples.fields_of(keeps_on, samples.BARRED, ((0, 1),)), wanted)
        # The first letter must be 0; behind it come several sets.
        mill = (2, ((2, 0), (2, 1)), (0,), (
            (OF, ("in", 1)), (("of", 1, 0), ("is", 0)), (("times", IN, ("of", 1, -1)), ("is", 0))))
        self.assertEqual(sets_through(mill, (1,))[1], ())
        many = len(Slow(mill).all_sets()) - 1
        self.assertGreater(many, 1)
        for most, wanted in ((many, None), (many - 1, ("TooMany", many - 1))):
            with unittest.mock.patch("merelylate.friends.MOST_SETS", most):
                self.assertEqual(samples.fields_of(enemy_ticks, mill, ((0, 1),)), wanted)


if __name__ == "__main__":
    unittest.main()
