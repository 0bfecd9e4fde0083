"""Point 42: what is decided, delays name by name, and lots of equations."""

import itertools
import unittest
import unittest.mock

import samples
from naive import Slow, small
from merelylate.choices import is_honest, least_delay
from merelylate.lots import decided, delays, honest_lots, needed, without

OF, IN = ("of", 0, 0), ("in", 0)
ALL = (decided, delays, honest_lots, needed)
# The first name is the next letter, the second one is free, the third one is the letter.
MIXED = (2, ((2, 0), (2, 0), (2, 0)), (0,), ((OF, ("in", 1)), (("of", 2, 0), IN)))
# Each of six equations says what a name is: two are doubled, one always holds, one follows from others.
SIX = (2, ((2, 0), (2, 0)), (0, 1), (
    (OF, IN), (("of", 1, 0), ("in", 1)), (OF, IN), (("is", 2), ("is", 2)),
    (("of", 1, -1), ("times", OF, ("of", 1, -1))), (("of", 1, 0), ("of", 0, 1))))
# There are more than 2000 sets of live windows; what is told is 0.
SETS_TOLD_0 = (2, ((3, 1), (2, 0)), (1,), ((("of", 0, 2), ("rest", ("plus", ("in", 2), (
    "pick", ("plus", IN, ("of", 0, 1)), ("plus", IN, OF), ("less", ("in", 1), OF))), 3)), (("of", 1, 0), ("is", 0))))


def alone(mill, name):
    return mill[:2] + ((name,),) + mill[3:]


def having(mill, *equations):
    """The mill with these equations alone."""
    return mill[:3] + (equations,)


def less(mill, *numbers):
    return mill[:3] + (tuple(pair for at, pair in enumerate(mill[3]) if at not in numbers),)


def all_lots(mill):
    numbers = range(len(mill[3]))
    return sorted(lot for many in range(len(mill[3]) + 1) for lot in itertools.combinations(numbers, many))


def fails_somewhere(mill, number):
    """Whether an equation fails at a tick of a history of the mill without it, by rows of five columns."""
    slow = Slow(less(mill, number))
    one = samples.Naive(mill[:3] + (mill[3][number:number + 1],))
    # A row holds the columns of the last five ticks, fewer at first, ahead of which is the column before.
    waiting = {(0, (slow.before,) * 5, window) for window in slow.beginnings()}
    known = set()
    while waiting:
        many, row, window = state = waiting.pop()
        known.add(state)
        if many > one.ahead and not one.holds_at(lambda at: row[4 - one.ahead + at], 0):
            return True
        for letter in range(mill[0]):
            for after in slow.steps[window, letter]:
                fresh = (min(many + 1, 5), row[1:] + (after[1][-1],), after)
                if fresh not in known:
                    waiting.add(fresh)
    return False


class DecidedTest(unittest.TestCase):

    def test_some_are_and_others_are_not(self):
        self.assertEqual(decided(MIXED), (0, 2))
        self.assertEqual(decided(samples.AHEAD), (0,))
        self.assertEqual(decided(samples.LONE), ())
        self.assertEqual(decided(samples.FREE), ())
        self.assertEqual(decided(samples.counting(2)), (0, 1, 2))
        self.assertEqual(decided(samples.BARRED), (0,))

    def test_names_that_are_not_told(self):
        for told in ((0,), (1,), (2,), (0, 1), (0, 1, 2)):
            mill = MIXED[:2] + (told,) + MIXED[3:]
            self.assertEqual(decided(mill), (0, 2))
            self.assertEqual(delays(mill), (1, None, 0))
        # What the first name keeps is free, and so what is told; then but for a name that is always 0.
        self.assertEqual(decided(samples.KEPT_AND_TOLD), ())
        kept = samples.KEPT_AND_TOLD
        self.assertEqual(decided(kept[:2] + ((1,),) + (kept[3][:1] + ((("of", 1, 0), ("is", 0)),),)), (1,))

    def test_no_history_at_all(self):
        self.assertEqual(decided(samples.STUCK), (0,))
        self.assertEqual(delays(samples.STUCK), (None,))

    def test_free_at_one_tick(self):
        # Behind the letter 1 the name is free once.
        mill = (2, ((2, 0), (2, 0)), (0,), ((("times", OF, ("is", 1)), ("times", OF, ("in", -2))), (("of", 1, 0), IN)))
        self.assertEqual(decided(mill), (1,))
        self.assertEqual(delays(mill), (None, 0))

    def test_the_same_as_over_pairs(self):
        found = set()
        for mill in small(samples.random_mills(151, 250) + samples.likely_mills(152, 400)):
            names = range(len(mill[1]))
            slow = [Slow(alone(mill, name)) for name in names]
            wanted = tuple(name for name in names if slow[name].delay() is not None)
            self.assertEqual(decided(mill), wanted, mill)
            self.assertEqual(delays(mill), tuple(one.delay() if one.honest() else None for one in slow), mill)
            found.add((len(wanted), len(mill[1])))
        self.assertLessEqual({(0, 1), (1, 1), (0, 2), (1, 2), (2, 2)}, found)


class DelaysTest(unittest.TestCase):

    def test_delays(self):
        self.assertEqual(delays(samples.PLAIN), (0,))
        self.assertEqual(delays(samples.NEXT_BUT_ONE), (2,))
        self.assertEqual(delays(MIXED), (1, None, 0))
        self.assertEqual(delays(samples.counting(2)), (0, 7, 0))
        self.assertEqual(delays(samples.READ_AND_TOLD), (2, 1))
        self.assertEqual(delays(samples.BARRED), (None,))
        self.assertEqual(delays(samples.LONE_BARRED), (None,))

    def test_a_mill_that_tells_one_name_alone(self):
        for mill in (samples.AHEAD, samples.PLAIN, samples.BACK, samples.LONE, samples.NEXT_BUT_ONE, samples.DYING):
            self.assertEqual(delays(mill), (least_delay(mill),))
            self.assertEqual(decided(mill), (0,) if mill != samples.LONE else ())

    def test_a_free_choice_is_looked_for_first(self):
        self.assertEqual(delays(samples.MANY_SETS), (None,))
        # The second name is always 0: whether there is a paradox asks for more than 2000 sets.
        self.assertEqual(samples.fields_of(delays, samples.MANY_SETS_TOLD_0), ("TooMany", 2000))
        self.assertEqual(decided(samples.MANY_SETS_TOLD_0), (1,))
        self.assertEqual(samples.fields_of(honest_lots, SETS_TOLD_0), ("TooMany", 2000))
        self.assertEqual(samples.fields_of(delays, SETS_TOLD_0), ("TooMany", 2000))
        # If it is told, the name that has them is a free choice.
        self.assertIsNone(samples.fields_of(honest_lots, alone(SETS_TOLD_0, 0)))


class WithoutTest(unittest.TestCase):

    def test_lots(self):
        self.assertEqual(without(SIX, ()), SIX)
        self.assertEqual(without(SIX, (0, 1, 2, 3, 4, 5)), SIX[:3] + ((),))
        self.assertEqual(without(SIX, (1, 4)), SIX[:3] + ((SIX[3][0], SIX[3][2], SIX[3][3], SIX[3][5]),))
        self.assertEqual(without(samples.FREE, ()), samples.FREE)
        for lot in all_lots(SIX):
            self.assertEqual(without(SIX, lot), less(SIX, *lot))

    def test_no_lots(self):
        for lot in samples.NOTHINGS + (0, 1, (6,), (0, 6), (-1,), (-1, 0), (1, 0), (0, 0), (2, 1, 0), (0, 2, 2), [0, 1],
                                       (0, True), (False,), ("0",), ((0,),), (0, None), {0, 1}, (0, 1, 2, 3, 4, 5, 6),
                                       (10 ** 30,), samples.nested(30000), tuple(range(10 ** 5))):
            if lot != ():
                self.assertEqual(samples.fields_of(without, SIX, lot), ("BadNumber",), lot)
        for lot in ((0,), (0, 1)):
            self.assertEqual(samples.fields_of(without, samples.FREE, lot), ("BadNumber",))
        self.assertEqual(samples.fields_of(without, samples.AHEAD, (1,)), ("BadNumber",))
        self.assertEqual(without(samples.AHEAD, (0,)), samples.FREE)

    def test_windows_are_not_counted(self):
        self.assertEqual(without(samples.AT_601, (1,)), less(samples.AT_601, 1))


class HonestLotsTest(unittest.TestCase):

    def test_honest_lots(self):
        self.assertEqual(honest_lots(samples.AHEAD), ((),))
        self.assertEqual(honest_lots(samples.FREE), ())
        self.assertEqual(honest_lots(samples.BARRED), ((0,),))
        self.assertEqual(honest_lots(samples.LONE_BARRED), ())
        self.assertEqual(honest_lots(samples.ALTERNATING), ((), (0,)))
        # Without the letter that is told, the equation that tells the next one is enough, and so on.
        doubled = samples.PLAIN[:3] + (samples.PLAIN[3] * 2,)
        self.assertEqual(honest_lots(doubled), ((), (0,), (1,)))
        self.assertEqual(honest_lots(samples.AHEAD_BARRED), ((0,),))

    def test_six_equations(self):
        found = honest_lots(SIX)
        self.assertEqual(found, tuple([lot for lot in all_lots(SIX) if is_honest(less(SIX, *lot))]))
        self.assertEqual(list(found), sorted(found))
        self.assertIn((4,), found)
        self.assertIn((0, 1, 3, 4), found)
        self.assertIn((), found)
        self.assertNotIn((0, 2, 4), found)

    def test_the_same_as_lot_by_lot(self):
        found = set()
        for mill in small(samples.random_mills(153, 120, -1, 1) + samples.likely_mills(154, 200)):
            if all(Slow(less(mill, *lot)).windows(60) for lot in all_lots(mill)):
                lots = tuple(lot for lot in all_lots(mill) if Slow(less(mill, *lot)).honest())
                self.assertEqual(honest_lots(mill), lots, mill)
                found.update(lots)
        self.assertLessEqual({(), (0,), (1,)}, found)


class NeededTest(unittest.TestCase):

    def test_needed(self):
        self.assertEqual(needed(samples.FREE), ())
        self.assertEqual(needed(samples.AHEAD), (0,))
        self.assertEqual(needed(samples.BARRED), (0, 1))
        self.assertEqual(needed(samples.STUCK), (0,))
        self.assertEqual(needed(samples.counting(2)), (0, 1, 2, 3))

    def test_doubled_and_always(self):
        doubled = samples.PLAIN[:3] + (samples.PLAIN[3] * 2,)
        self.assertEqual(needed(doubled), ())
        self.assertEqual(needed(having(samples.PLAIN, (("is", 3), ("is", 3)), (OF, IN))), (1,))
        self.assertEqual(needed(having(samples.PLAIN, (OF, OF), (OF, IN))), (1,))
        # What follows from two others is not needed, nor is either of these if it is doubled.
        self.assertEqual(needed(SIX), ())
        self.assertEqual(needed(less(SIX, 2)), (0,))
        self.assertEqual(needed(less(SIX, 2, 5)), (0, 1))
        self.assertEqual(needed(less(SIX, 2, 4)), (0,))

    def test_equations_that_follow(self):
        # If the name is 0 at all ticks, what it is now is what it was; but for its first value.
        for first in range(2):
            mill = (1, ((2, first),), (0,), ((OF, ("is", 0)), (OF, ("of", 0, -1))))
            self.assertEqual(needed(mill), (0, 1) if first else (), mill)
        three = (1, ((3, 0),), (0,), ((OF, ("of", 0, -1)), (OF, ("is", 0))))
        self.assertEqual(needed(three), ())

    def test_an_equation_that_looks_farther_than_the_others(self):
        farther = (("of", 0, 2), ("of", 0, -2))
        self.assertEqual(needed(having(samples.PLAIN, farther, (OF, ("is", 0)))), (1,))
        self.assertEqual(needed(having(samples.PLAIN, farther, (OF, IN))), (0, 1))
        self.assertEqual(needed(having(samples.PLAIN, (("in", 2), ("in", -2)))), (0,))
        self.assertEqual(needed(having(samples.PLAIN, (OF, IN), (("of", 0, 2), ("in", 2)))), (0,))
        # At the first ticks alone it fails: it reads the first value.
        mill = (1, ((2, 1),), (0,), ((("of", 0, -2), ("times", ("of", 0, 2), ("of", 0, -2))), (OF, ("is", 0))))
        self.assertEqual(needed(mill), (0, 1))
        # A count from 0 stays at 2: what holds of it at all ticks, and what fails at one of the first ones alone.
        count = (OF, ("pick", ("same", ("of", 0, -1), ("is", 2)), ("is", 2), ("plus", ("of", 0, -1), ("is", 1))))
        for one, two, wanted in ((("less", ("of", 0, -1), ("of", 0, 1)), ("less", ("of", 0, -1), ("is", 2)), (0,)),
                                 (("less", ("of", 0, -1), ("of", 0, 1)), ("same", OF, ("is", 1)), (0, 1)),
                                 (("less", ("of", 0, -2), OF), ("is", 0), (0, 1)),
                                 (("less", ("is", 1), ("of", 0, 1)), ("is", 1), (0,)),
                                 (("less", ("is", 1), OF), ("is", 1), (0, 1)),
                                 (("less", ("is", 1), ("of", 0, -1)), ("same", ("of", 0, -2), ("is", 2)), (0, 1))):
            self.assertEqual(needed((1, ((3, 0),), (0,), (count, (one, two)))), wanted)

    def test_no_history_without_it(self):
        # Whatever is added, no input has a history without it.
        mill = samples.STUCK[:3] + (samples.STUCK[3] + ((OF, ("is", 1)), (OF, ("in", 1))),)
        self.assertEqual(needed(mill), ())
        self.assertEqual(needed(samples.STUCK[:3] + (samples.STUCK[3] + ((OF, ("is", 1)),),)), (0,))

    def test_ways_that_do_not_go_on(self):
        # The name may be 1 at a tick, but then there is no way on; so it is 0.
        self.assertEqual(needed(having(samples.DYING, samples.DYING[3][0], (OF, ("is", 0)))), ())
        self.assertEqual(needed(having(samples.DYING, (OF, IN), samples.DYING[3][0])), (0, 1))

    def test_the_same_by_rows_of_columns(self):
        found = set()
        mills = samples.random_mills(155, 150, -1, 1) + samples.likely_mills(156, 250) + samples.random_mills(157, 150, -2, 0)
        mills += samples.random_mills(158, 100, 0, 2)
        mills += [mill[:3] + (mill[3] + ((OF, ("of", 0, 1)), (("of", 0, -1), ("of", 0, 1))),) for mill in mills[:80]]
        for mill in small(mills):
            if all(Slow(less(mill, number)).windows(60) for number in range(len(mill[3]))):
                wanted = tuple(number for number in range(len(mill[3])) if fails_somewhere(mill, number))
                self.assertEqual(needed(mill), wanted, mill)
                found.add((len(wanted), len(mill[3])))
        self.assertLessEqual({(0, 1), (1, 1), (0, 2), (1, 2), (2, 2), (1, 3), (2, 3)}, found)


class TooManyTest(unittest.TestCase):

    def test_too_many_windows(self):
        for call in ALL:
            self.assertEqual(samples.fields_of(call, samples.AT_601), ("TooMany", 600))
        for call in (decided, delays):
            self.assertIsNone(samples.fields_of(call, samples.AT_600))
        # Without an equation there are more.
        for call in (honest_lots, needed):
            self.assertEqual(samples.fields_of(call, samples.AT_600), ("TooMany", 600))

    def test_too_many_of_the_whole_mill_alone(self):
        # The equation always holds, and looks far: without it no window has more than one column.
        mill = (3, ((3, 0), (3, 0)), (0,), ((("of", 0, -2), ("of", 0, -2)),))
        for call in ALL:
            self.assertEqual(samples.fields_of(call, mill), ("TooMany", 600))
            self.assertNotEqual(samples.fields_of(call, less(mill, 0)), ("TooMany", 600))

    def test_too_many_without_two_equations(self):
        # Each pair of equations keeps the windows few, but not the last one alone.
        last = (("of", 2, -2), ("of", 2, -2))
        mill = (2, ((3, 0), (3, 0), (2, 0)), (0,), ((OF, IN), (("of", 1, 0), IN), last))
        self.assertEqual(samples.fields_of(honest_lots, mill), ("TooMany", 600))
        self.assertEqual(needed(mill), (0, 1))
        self.assertIsNone(samples.fields_of(decided, mill))

    def test_windows_ahead_of_sets(self):
        # With all equations there are too many sets, without those for what is told too many windows.
        mill = samples.MANY_SETS_TOLD_0
        self.assertEqual(samples.fields_of(is_honest, mill), ("TooMany", 2000))
        self.assertEqual(samples.fields_of(is_honest, less(mill, 1, 2, 3)), ("TooMany", 600))
        self.assertEqual(samples.fields_of(honest_lots, mill), ("TooMany", 600))


if __name__ == "__main__":
    unittest.main()
