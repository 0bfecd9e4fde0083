"""Point 41: mills put together."""

import itertools
import random
import unittest

import samples
from naive import Slow, small
from merelylate.choices import free_choice, is_honest
from merelylate.joins import behind, beside, reads_back, ringed, turned
from merelylate.mills import is_history
from merelylate.windows import windows

OF, IN = ("of", 0, 0), ("in", 0)
TWO_TOLD = (2, ((2, 0), (2, 0)), (0, 1), ())
THREE_VALUES = (2, ((3, 0),), (0,), ((OF, IN),))
FIRST_1 = (2, ((2, 1),), (0,), ((OF, IN),))
# The second of two names is told.
SECOND = (3, ((3, 2), (2, 0)), (1,), ((("of", 1, 1), ("times", IN, ("of", 0, -1))),))
# The letter in all kinds of terms, and with all offsets.
EVERYWHERE = (2, ((2, 0), (3, 1)), (0,), (
    (("plus", ("in", -2), ("is", 1)), ("times", ("in", -1), ("of", 1, 2))),
    (("same", IN, ("of", 0, -1)), ("less", ("in", 1), ("in", 2))),
    (("pick", IN, ("in", 1), OF), ("rest", ("pick", OF, ("is", 7), ("plus", IN, IN)), 3)),
    (("of", 1, 0), ("is", 2))))
FREE_THREE = (1, ((2, 0),) * 3, (0,), ())


def with_equations(mill, many):
    """A mill with so many equations more that always hold."""
    return mill[:3] + (mill[3] + ((("is", 0), ("is", 0)),) * many,)


class BehindTest(unittest.TestCase):

    def test_numbers_and_letters(self):
        other = (3, ((2, 1),), (0,), EVERYWHERE_ONE)
        mill = behind(SECOND, other)
        self.assertEqual(mill[:3], (3, ((3, 2), (2, 0), (2, 1)), (2,)))
        self.assertEqual(mill[3], SECOND[3] + (
            (("plus", ("of", 1, -2), ("is", 1)), ("times", ("of", 1, -1), ("of", 2, 2))),
            (("same", ("of", 1, 0), ("of", 2, -1)), ("less", ("of", 1, 1), ("of", 1, 2))),
            (("pick", ("of", 1, 0), ("of", 1, 1), ("of", 2, 0)),
             ("rest", ("pick", ("of", 2, 0), ("is", 7), ("plus", ("of", 1, 0), ("of", 1, 0))), 3))))

    def test_told_names(self):
        other = (2, ((2, 0), (3, 0)), (0, 1), ())
        self.assertEqual(behind(samples.PLAIN, other), (2, ((2, 0), (2, 0), (3, 0)), (1, 2), samples.PLAIN[3]))

    def test_what_feeds(self):
        for one, other, feeds in (
                (samples.PLAIN, samples.PLAIN, True), (samples.PLAIN, (3,) + samples.PLAIN[1:], True),
                (samples.PLAIN, (1,) + samples.PLAIN[1:], False), (THREE_VALUES, samples.PLAIN, False),
                (THREE_VALUES, (3,) + samples.PLAIN[1:], True), (TWO_TOLD, samples.PLAIN, False),
                (FIRST_1, samples.PLAIN, False), (samples.PLAIN, FIRST_1, True), (samples.PLAIN, TWO_TOLD, True),
                (SECOND, samples.PLAIN, True), (samples.NAMED, samples.PLAIN, False)):
            self.assertEqual(samples.fields_of(behind, one, other), None if feeds else ("NotAlike",), (one, other))

    def test_the_same_histories(self):
        seen = set()
        mills = one_name_mills(131, 60)
        chance = random.Random(132)
        for _ in range(60):
            one, other = chance.choice(mills), chance.choice(mills)
            mill = behind(one, other)
            for stem, loop in some_loops(chance, mill, 40):
                ones = [tuple([column[:2] for column in part]) for part in (stem, loop)]
                others = [tuple([column[1:] for column in part]) for part in (stem, loop)]
                wanted = is_history(one, tuple(ones)) and is_history(other, tuple(others))
                self.assertIs(is_history(mill, (stem, loop)), wanted)
                seen.add(is_history(mill, (stem, loop)))
        self.assertEqual(seen, {True, False})


EVERYWHERE_ONE = (
    (("plus", ("in", -2), ("is", 1)), ("times", ("in", -1), ("of", 0, 2))),
    (("same", IN, ("of", 0, -1)), ("less", ("in", 1), ("in", 2))),
    (("pick", IN, ("in", 1), OF), ("rest", ("pick", OF, ("is", 7), ("plus", IN, IN)), 3)))


def one_name_mills(seed, many):
    """Mills of two letters that tell their one name, 0 or 1, and 0 at first."""
    mills = samples.random_mills(seed, 40 * many) + samples.likely_mills(seed, 40 * many)
    found = [mill for mill in mills if mill[:3] == (2, ((2, 0),), (0,)) and 0 < len(mill[3]) < 4]
    return found[:many]


def some_loops(chance, mill, many):
    """Looping pairs of columns, and all that are histories among the shortest ones."""
    columns = list(itertools.product(range(mill[0]), *[range(values) for values, _ in mill[1]]))
    for stem in ((),) + tuple([(column,) for column in columns]):
        for loop in columns:
            yield stem, (loop,)
    for _ in range(many):
        yield (tuple(chance.choices(columns, k=chance.randrange(3))), tuple(chance.choices(columns, k=chance.randint(2, 3))))


class BesideTest(unittest.TestCase):

    def test_parts(self):
        mill = beside(samples.PLAIN, EVERYWHERE)
        self.assertEqual(mill[:3], (2, ((2, 0), (2, 0), (3, 1)), (0, 1)))
        self.assertEqual(mill[3], samples.PLAIN[3] + (
            (("plus", ("in", -2), ("is", 1)), ("times", ("in", -1), ("of", 2, 2))),
            (("same", IN, ("of", 1, -1)), ("less", ("in", 1), ("in", 2))),
            (("pick", IN, ("in", 1), ("of", 1, 0)), ("rest", ("pick", ("of", 1, 0), ("is", 7), ("plus", IN, IN)), 3)),
            (("of", 2, 0), ("is", 2))))

    def test_numbers_behind_two_names(self):
        mill = beside(SECOND, (3, ((2, 1),), (0,), EVERYWHERE_ONE[1:2]))
        self.assertEqual(mill, (3, ((3, 2), (2, 0), (2, 1)), (1, 2), SECOND[3] + (
            (("same", IN, ("of", 2, -1)), ("less", ("in", 1), ("in", 2))),)))

    def test_letters(self):
        for one, other in itertools.product((1, 2, 3), repeat=2):
            wanted = None if one == other else ("NotAlike",)
            mills = (one,) + samples.FREE[1:], (other,) + FIRST_1[1:]
            self.assertEqual(samples.fields_of(beside, *mills), wanted)
        # Nothing is fed here.
        self.assertEqual(beside(FIRST_1, THREE_VALUES)[1:3], (((2, 1), (3, 0)), (0, 1)))

    def test_the_same_histories(self):
        seen = set()
        chance = random.Random(133)
        mills = one_name_mills(134, 40)
        for _ in range(50):
            one, other = chance.choice(mills), chance.choice(mills)
            mill = beside(one, other)
            for stem, loop in some_loops(chance, mill, 30):
                sides = [[tuple([(column[0], column[name]) for column in part]) for part in (stem, loop)]
                         for name in (1, 2)]
                wanted = is_history(one, tuple(sides[0])) and is_history(other, tuple(sides[1]))
                self.assertIs(is_history(mill, (stem, loop)), wanted)
                seen.add(is_history(mill, (stem, loop)))
        self.assertEqual(seen, {True, False})


class TooManyTest(unittest.TestCase):

    def test_names_and_equations(self):
        two = (2, ((2, 0), (2, 0)), (0,), ())
        for call in (behind, beside):
            self.assertEqual(len(call(samples.FREE, two)[1]), 3)
            self.assertEqual(len(call(two, samples.FREE)[1]), 3)
            self.assertEqual(samples.fields_of(call, two, two), ("TooMany", 3))
            self.assertEqual(samples.fields_of(call, with_equations(two, 4), with_equations(two, 4)), ("TooMany", 3))
            for many in range(7):
                one = with_equations(samples.FREE, many)
                self.assertEqual(len(call(one, with_equations(samples.FREE, 6 - many))[3]), 6)
                if many > 0:
                    self.assertEqual(
                        samples.fields_of(call, one, with_equations(samples.FREE, 7 - many)), ("TooMany", 6))

    def test_not_alike_comes_first(self):
        two = with_equations((2, ((2, 1), (2, 0)), (0,), ()), 6)
        self.assertEqual(samples.fields_of(behind, two, two), ("NotAlike",))
        self.assertEqual(samples.fields_of(beside, two, (3,) + two[1:]), ("NotAlike",))
        self.assertEqual(samples.fields_of(behind, None, two), ("BadMill", "mill"))
        self.assertEqual(samples.fields_of(behind, two, None), ("BadMill", "mill"))
        self.assertEqual(samples.fields_of(beside, two, (3, (), (), ())), ("BadMill", "names"))
        self.assertEqual(samples.fields_of(beside, (2, ((2, 0),), (), ()), None), ("BadMill", "told"))

    def test_no_windows_are_counted(self):
        mill = samples.AT_601[:1] + (((3, 0), (2, 0)), (0,)) + (samples.AT_601[3],)
        self.assertIsNone(samples.fields_of(behind, mill, (3,) + samples.PLAIN[1:]))
        self.assertIsNone(samples.fields_of(beside, mill, (3,) + samples.PLAIN[1:]))
        self.assertIsNone(samples.fields_of(ringed, samples.AT_601))
        self.assertIsNone(samples.fields_of(turned, samples.AT_601))
        self.assertEqual(samples.fields_of(reads_back, samples.AT_601), ("TooMany", 600))
        self.assertEqual(samples.fields_of(windows, samples.AT_601), ("TooMany", 600))
        self.assertIn(reads_back(samples.AT_600), (True, False))


class RingedTest(unittest.TestCase):

    def test_parts(self):
        mill = ringed(EVERYWHERE)
        self.assertEqual(mill[:3], (1,) + EVERYWHERE[1:3])
        self.assertEqual(mill[3], (
            (("plus", ("of", 0, -2), ("is", 1)), ("times", ("of", 0, -1), ("of", 1, 2))),
            (("same", OF, ("of", 0, -1)), ("less", ("of", 0, 1), ("of", 0, 2))),
            (("pick", OF, ("of", 0, 1), OF), ("rest", ("pick", OF, ("is", 7), ("plus", OF, OF)), 3)),
            (("of", 1, 0), ("is", 2))))
        self.assertEqual(ringed(SECOND)[3], ((("of", 1, 1), ("times", ("of", 1, 0), ("of", 0, -1))),))

    def test_what_feeds_itself(self):
        for mill, feeds in ((samples.PLAIN, True), (THREE_VALUES, False), (TWO_TOLD, False), (FIRST_1, False),
                            (SECOND, True), ((3,) + THREE_VALUES[1:], True), ((1,) + samples.PLAIN[1:], False)):
            self.assertEqual(samples.fields_of(ringed, mill), None if feeds else ("NotAlike",))
        self.assertEqual(samples.fields_of(ringed, TWO_TOLD[:2]), ("BadMill", "mill"))

    def test_the_same_histories(self):
        seen = set()
        chance = random.Random(135)
        for mill in one_name_mills(136, 40):
            ring = ringed(mill)
            for stem, loop in some_loops(chance, ring, 30):
                fed = tuple([tuple([(value, value) for _, value in part]) for part in (stem, loop)])
                self.assertIs(is_history(ring, (stem, loop)), is_history(mill, fed))
                seen.add(is_history(ring, (stem, loop)))
        self.assertEqual(seen, {True, False})


class TurnedTest(unittest.TestCase):

    def test_parts(self):
        mill = turned(EVERYWHERE)
        self.assertEqual(mill[:3], EVERYWHERE[:3])
        self.assertEqual(mill[3], (
            (("plus", ("of", 0, -2), ("is", 1)), ("times", ("of", 0, -1), ("of", 1, 2))),
            (("same", OF, ("in", -1)), ("less", ("of", 0, 1), ("of", 0, 2))),
            (("pick", OF, ("of", 0, 1), IN), ("rest", ("pick", IN, ("is", 7), ("plus", OF, OF)), 3)),
            (("of", 1, 0), ("is", 2))))
        self.assertEqual(turned(SECOND), (
            2, ((3, 2), (3, 0)), (1,), ((("in", 1), ("times", ("of", 1, 0), ("of", 0, -1))),)))
        self.assertEqual(turned(THREE_VALUES), (3, ((2, 0),), (0,), ((IN, OF),)))

    def test_what_can_be_turned(self):
        for mill, wanted in ((samples.PLAIN, True), (THREE_VALUES, True), (TWO_TOLD, False), (FIRST_1, False),
                             ((1,) + samples.PLAIN[1:], False), ((3,) + samples.PLAIN[1:], True), (SECOND, True)):
            for call in (turned, reads_back):
                self.assertEqual(samples.fields_of(call, mill), None if wanted else ("NotAlike",), mill)

    def test_turned_twice(self):
        for mill in samples.random_mills(137, 300) + [EVERYWHERE, SECOND, THREE_VALUES]:
            if samples.fields_of(turned, mill) is None:
                self.assertEqual(turned(turned(mill)), mill)

    def test_the_same_histories(self):
        seen = set()
        chance = random.Random(138)
        for mill in one_name_mills(139, 40):
            other = turned(mill)
            for stem, loop in some_loops(chance, mill, 40):
                exchanged = tuple([tuple([column[::-1] for column in part]) for part in (stem, loop)])
                self.assertIs(is_history(other, exchanged), is_history(mill, (stem, loop)))
                seen.add(is_history(other, exchanged))
        self.assertEqual(seen, {True, False})


class ReadsBackTest(unittest.TestCase):

    def test_mills(self):
        nothing = (2, ((2, 0),), (0,), ((OF, ("is", 0)),))
        # The first letter is never told.
        late = (2, ((2, 0),), (0,), ((OF, ("in", 1)),))
        either = (2, ((2, 0),), (0,), ((OF, ("rest", ("plus", IN, ("in", -1)), 2)),))
        both = (2, ((2, 0),), (0,), ((OF, ("times", IN, ("in", -1))),))
        three = (3, ((2, 0),), (0,), ((OF, ("less", ("is", 0), IN)),))
        for mill, wanted in ((samples.PLAIN, True), (samples.BACK[:1] + (((2, 0),),) + samples.BACK[2:], True),
                             (nothing, False), (late, False), (either, True), (both, False), (three, False),
                             (samples.FREE, False), (samples.LONE, False), (samples.BARRED, True),
                             ((3, ((3, 0),), (0,), ((OF, IN),)), True)):
            self.assertIs(reads_back(mill), wanted, mill)

    def test_no_history(self):
        stuck = (2,) + samples.STUCK[1:]
        self.assertIs(reads_back(stuck), True)
        # One input alone has a history.
        only = (2, ((2, 0),), (0,), ((IN, ("is", 1)), (OF, ("is", 0))))
        self.assertIs(reads_back(only), True)

    def test_free_choices_of_one_input(self):
        # Unlike histories that tell the same matter only if their inputs are unlike.
        untold = (2, ((2, 0), (2, 0)), (0,), ((OF, IN),))
        self.assertIs(reads_back(untold), True)
        self.assertIsNone(free_choice(untold))
        told = (2, ((3, 0),), (0,), ((("rest", OF, 2), IN),))
        self.assertIs(is_honest(told), False)
        self.assertIs(reads_back(told), True)

    def test_unlike_inputs_that_come_to_an_end(self):
        # Two inputs tell the same for some ticks, but then the one or the other must be told.
        shown_later = (2, ((2, 0),), (0,), (
            (OF, ("in", -1)), (("times", IN, ("in", 1)), ("is", 0))))
        self.assertIs(reads_back(shown_later), True)

    def test_the_same_as_by_pairs(self):
        found = {True: 0, False: 0}
        mills = samples.random_mills(141, 700) + samples.likely_mills(142, 700)
        for mill in small(mills):
            if samples.fields_of(turned, mill) is None:
                wanted = not confused(Slow(mill))
                self.assertIs(reads_back(mill), wanted, mill)
                found[wanted] += 1
        self.assertGreater(min(found.values()), 30)


def confused(slow):
    """Whether two endless ways tell the same at every tick and have unlike letters at one."""
    def onward(pair):
        return {(one, other) for letters in itertools.product(range(slow.letters), repeat=2)
                for one in slow.steps[pair[0], letters[0]] for other in slow.steps[pair[1], letters[1]]
                if slow.told_in(one) == slow.told_in(other)}
    start = [(window, window) for window in slow.beginnings()]
    ways = {}
    waiting = list(start)
    while waiting:
        pair = waiting.pop()
        if pair not in ways:
            ways[pair] = onward(pair)
            waiting.extend(ways[pair])
    going = set(ways)
    while True:
        kept = {pair for pair in going if ways[pair] & going}
        if kept == going:
            break
        going = kept
    come_to = {after for pair in ways for after in ways[pair]}
    return any(one[1][-1][0] != other[1][-1][0] for one, other in going & come_to)


if __name__ == "__main__":
    unittest.main()
