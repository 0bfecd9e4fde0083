"""Point 43: how far what is told is changed by a tick that fails, and by one other letter."""

import itertools
import unittest
import unittest.mock

import samples
from naive import Slow, small
from merelylate.choices import is_honest, least_delay
from merelylate.faults import fault_reach, heals, letter_reach

OF, IN = ("of", 0, 0), ("in", 0)
NOT_HONEST = (samples.LONE, samples.FREE, samples.BARRED, samples.STUCK, samples.AHEAD_BARRED, samples.LONE_BARRED,
              samples.MANY_SETS)
LETTERS_SO_FAR = (2, ((2, 0),), (0,), ((OF, ("rest", ("plus", ("of", 0, -1), IN), 2)),))
KEPT = (1, ((2, 0),), (0,), ((OF, ("of", 0, -1)),))
# What is told is what another name was two ticks before.
PASSED_ON = (1, ((2, 0), (2, 0)), (1,), ((OF, ("is", 0)), (("of", 1, 0), ("of", 0, -2))))
# Fault triples and letter triples: 20736 of each; 19225 and 10801; 13824 and 18432.
MOST_OF_BOTH = (2, ((2, 0), (2, 0), (3, 0)), (0,), ((OF, IN), (("of", 1, -2), ("of", 1, -2))))
MANY_FAULTS = (2, ((3, 0), (2, 0)), (0,), ((OF, ("in", 1)), (("of", 1, -2), ("of", 1, -2))))
MANY_LETTERS = (3, ((2, 0),) * 3, (0,), ((OF, ("rest", ("in", -2), 2)), (("of", 1, 0), ("of", 2, -1))))
TICKS = 6


class Beside(Slow):
    """Histories, and rows beside them that are unlike at a tick of a given number, tick by tick."""

    def told_of(self, window):
        return tuple(window[1][-1][name + 1] for name in self.told)

    def any_after(self, window, letter):
        """The windows behind a window by any column with a letter."""
        phase, columns = window
        return [(min(self.ahead, phase + 1), columns[1:] + (column,)) for column in self.columns if column[0] == letter]

    def faulty_steps(self, pair, late):
        """Pairs behind a pair of a history and a row, late if the equations need not hold for the tick asked for."""
        for letter in range(self.letters):
            seconds = self.any_after(pair[1], letter) if late else self.after(pair[1], letter)
            yield from itertools.product(self.steps[pair[0], letter], seconds)

    def letter_steps(self, pair, late):
        for one, other in itertools.product(range(self.letters), repeat=2):
            if (one != other) == late:
                yield from itertools.product(self.steps[pair[0], one], self.steps[pair[1], other])

    def endless(self, pairs, steps):
        """Those of some pairs from which letters lead on for ever without anything unlike."""
        ways = {}
        waiting = list(pairs)
        while waiting:
            pair = waiting.pop()
            if pair not in ways:
                ways[pair] = set(steps(pair, False))
                waiting.extend(ways[pair])
        going, fewer = set(ways), None
        while fewer != going:
            fewer = going
            going = {pair for pair in going if ways[pair] & going}
        return going

    def unlike_ticks(self, steps, later):
        """All pairs (tick of the fault, tick at which unlike things are told) among the first ones.

        The fault is seen so many ticks later than it is.
        """
        found = set()
        for fault in range(TICKS):
            now = {(self.start(), self.start(), None)}
            for tick in range(fault + later + TICKS):
                fresh = set()
                for one, other, unlike in now:
                    for pair in steps((one, other), tick == fault + later):
                        fresh.add((*pair, unlike))
                        if unlike is None and self.told_of(pair[0]) != self.told_of(pair[1]):
                            fresh.add((*pair, tick))
                now = fresh
            going = self.endless({state[:2] for state in now}, steps)
            found |= {(fault, unlike) for *pair, unlike in now if tuple(pair) in going and unlike is not None}
        return found

    def triples(self, steps, asked):
        """How many triples come; a pair's row may go wrong only if asked says so of its window."""
        found = {(self.start(), self.start(), False)}
        fresh = set(found)
        while fresh:
            behind = set()
            for one, other, past in fresh:
                behind |= {(*pair, past) for pair in steps((one, other), False)}
                if not past and asked(other):
                    behind |= {(*pair, True) for pair in steps((one, other), True)}
            fresh = behind - found
            found |= fresh
        return len(found)

    def fault_triples(self):
        return self.triples(self.faulty_steps, lambda window: window[0] == self.ahead)

    def letter_triples(self):
        return self.triples(self.letter_steps, lambda window: True)


class FaultTest(unittest.TestCase):

    def test_mills_of_delay_0(self):
        self.assertEqual(fault_reach(samples.PLAIN), (0, 0))
        self.assertEqual(fault_reach(samples.BACK), (0, 0))
        self.assertEqual(fault_reach(samples.DYING), (0, 0))
        # Told by two equations: at the tick itself and the next one.
        mill = (2, ((2, 0), (2, 0)), (0, 1), ((OF, IN), (("of", 1, 0), ("of", 0, -1))))
        self.assertEqual(fault_reach(mill), (0, 1))

    def test_mills_that_are_late(self):
        self.assertEqual(fault_reach(samples.AHEAD), (0, 0))
        self.assertEqual(fault_reach(samples.NEXT_BUT_ONE), (0, 0))
        self.assertEqual(fault_reach(samples.READ_AND_TOLD), (0, 1))
        self.assertEqual(fault_reach(samples.counting(2)), (7, "any"))

    def test_mills_that_never_heal(self):
        for mill in (KEPT, LETTERS_SO_FAR, samples.counting(2), samples.ALTERNATING):
            self.assertEqual(fault_reach(mill)[1], "any")
            self.assertIs(heals(mill), False)
        self.assertEqual(fault_reach(KEPT), (0, "any"))

    def test_all_equations_may_fail_at_the_tick(self):
        for equations in (((OF, IN),), ((OF, IN),) * 2, ((OF, IN), (IN, OF), (OF, IN))):
            self.assertEqual(fault_reach(samples.PLAIN[:3] + (equations,)), (0, 0))

    def test_nothing_unlike_at_all(self):
        # What is told is asked for at two ticks, at one of which it holds.
        mill = (1, ((2, 0),), (0,), ((OF, ("is", 0)), (("of", 0, -1), ("is", 0))))
        self.assertIsNone(fault_reach(mill))
        self.assertIs(heals(mill), True)
        self.assertEqual(fault_reach(mill[:3] + (mill[3][:1],)), (0, 0))
        # Another name may be unlike, for ever, but it isn't told.
        mill = (1, ((2, 0), (2, 0)), (1,), ((OF, ("of", 0, -1)), (("of", 1, 0), ("is", 0)), (("of", 1, -1), ("is", 0))))
        self.assertIsNone(fault_reach(mill))
        self.assertIs(heals(mill), True)
        self.assertEqual(fault_reach(mill[:2] + ((0,),) + mill[3:]), (0, "any"))

    def test_numbers_below_0(self):
        # What is told is asked for again at the next tick, what it was before isn't.
        one, two = ("of", 1, 0), ("of", 2, 0)
        mill = (2, ((2, 0), (2, 0)), (1,), ((OF, IN), (one, ("of", 0, -1)), (("of", 1, -1), ("of", 0, -2))))
        self.assertEqual(fault_reach(mill), (-1, 1))
        # The same with a name between them.
        mill = (2, ((2, 0), (2, 0), (2, 0)), (2,), mill[3] + ((two, ("of", 1, -1)), (("of", 2, -1), ("of", 1, -2))))
        self.assertEqual(fault_reach(mill), (-2, 2))
        # What is told is said at the next tick, and the one behind it.
        for many in (1, 2):
            mill = (2, ((2, 0),), (0,), ((("of", 0, -many), ("in", -many)),))
            self.assertEqual(fault_reach(mill), (many, -many))

    def test_equations_that_look_ahead(self):
        # From the tick at which it is asked for, what is told is one or two ticks later.
        for many in (1, 2):
            first = [(("of", 0, number), ("is", 0)) for number in range(many)]
            mill = (1, ((2, 0),), (0,), tuple(first) + ((("of", 0, many), ("is", 0)),))
            self.assertEqual(fault_reach(mill), (0, 0))
            mill = (1, ((2, 0),), (0,), ((("of", 0, many), ("times", ("of", 0, many), OF)), (OF, ("is", 0))))
            self.assertEqual(fault_reach(mill), (0, 0))

    def test_faults_at_the_first_ticks(self):
        # The equation that looks ahead holds up what is told, but for the first tick, or the first two.
        for many in (1, 2):
            mill = (1, ((2, 0),), (0,), ((OF, ("is", 0)), (("of", 0, many), ("is", 0))))
            slow = Beside(mill)
            self.assertEqual(slow.unlike_ticks(slow.faulty_steps, many), {(tick, tick) for tick in range(many)})
            self.assertEqual(fault_reach(mill), (0, 0))
        # The first name is 1 ahead of all ticks; only from a fault at the first one does it come to be 1 later.
        mill = (1, ((2, 1), (2, 0)), (1,), ((OF, ("is", 0)), (("of", 1, 0), ("times", ("of", 0, -1), ("of", 0, -2)))))
        self.assertEqual(fault_reach(mill), (0, 1))
        mill = (1, ((2, 0), (2, 0)), (1,), mill[3])
        self.assertEqual(fault_reach(mill), (0, 0))

    def test_the_same_over_the_first_ticks(self):
        found = set()
        mills = samples.likely_mills(171, 500) + samples.random_mills(172, 500, -1, 1) + samples.random_mills(173, 300)
        mills += [samples.AHEAD, samples.NEXT_BUT_ONE, samples.DYING, PASSED_ON, KEPT]
        for mill in small(mills, 12):
            if not is_honest(mill) or Beside(mill).fault_triples() > 300:
                continue
            slow = Beside(mill)
            ticks = slow.unlike_ticks(slow.faulty_steps, slow.ahead)
            answer = fault_reach(mill)
            self.assertIs(heals(mill), answer is None or answer[1] != "any")
            found.add(self.fits(answer, ticks, mill))
        self.assertLessEqual({(None, None), (0, 0), (0, "any"), (0, 1), (1, -1), (2, -2), (1, "any"), (1, 0)}, found)

    def fits(self, answer, ticks, mill):
        """Check an answer against the ticks that were found, and tell what it is."""
        if answer is None:
            self.assertEqual(ticks, set(), mill)
            return None, None
        back, ahead = answer
        self.assertEqual(back, max(fault - tick for fault, tick in ticks), mill)
        most = max(tick - fault for fault, tick in ticks)
        if ahead == "any":
            self.assertGreaterEqual(most, TICKS - 2, mill)
        else:
            self.assertEqual(ahead, most, mill)
        return answer


class LetterTest(unittest.TestCase):

    def test_delays(self):
        self.assertEqual(letter_reach(samples.PLAIN), (0, 0))
        self.assertEqual(letter_reach(samples.BACK), (-1, 1))
        self.assertEqual(letter_reach(samples.AHEAD), (1, -1))
        self.assertEqual(letter_reach(samples.NEXT_BUT_ONE), (2, -2))
        self.assertEqual(letter_reach(samples.counting(2)), (7, 0))
        self.assertEqual(letter_reach(LETTERS_SO_FAR), (0, "any"))
        mill = (2, ((2, 0),), (0,), ((OF, ("same", ("in", -2), ("in", 2))),))
        self.assertEqual(letter_reach(mill), (2, 2))

    def test_nothing_unlike(self):
        for mill in (samples.DYING, KEPT, PASSED_ON, (3, ((2, 0), (3, 0)), (0,), ((OF, ("is", 0)), (("of", 1, 0), IN)))):
            self.assertIsNone(letter_reach(mill))
        # With one letter there are no two inputs; with three there are.
        for letters in (1, 2, 3):
            mill = (letters, ((3, 0),), (0,), ((OF, IN),))
            self.assertEqual(letter_reach(mill), None if letters == 1 else (0, 0))
            self.assertEqual(fault_reach(mill), (0, 0))

    def test_back_is_at_most_the_least_delay(self):
        found = set()
        for mill in small(samples.likely_mills(174, 500) + [samples.TOLD_ONCE, samples.ALTERNATING]):
            if is_honest(mill) and letter_reach(mill) is not None:
                back, ahead = letter_reach(mill)
                self.assertLessEqual(back, least_delay(mill))
                self.assertTrue(ahead == "any" or ahead >= -back)
                found.add(back)
        self.assertLessEqual({-1, 0, 1, 2}, found)

    def test_the_same_over_the_first_ticks(self):
        found = set()
        mills = samples.likely_mills(175, 500) + samples.random_mills(176, 400) + [samples.AHEAD, samples.NEXT_BUT_ONE]
        for mill in small(mills, 16):
            if not is_honest(mill) or Beside(mill).letter_triples() > 300:
                continue
            slow = Beside(mill)
            found.add(FaultTest.fits(self, letter_reach(mill), slow.unlike_ticks(slow.letter_steps, 0), mill))
        self.assertLessEqual({(None, None), (0, 0), (1, -1), (1, 1), (-1, 1), (0, 1), (1, 0), (-1, 2), (-2, "any")}, found)


class ErrorsTest(unittest.TestCase):

    def test_not_honest(self):
        for mill in NOT_HONEST:
            for call in (fault_reach, heals, letter_reach):
                self.assertEqual(samples.fields_of(call, mill), ("NotHonest",), mill)

    def test_too_many_windows_and_sets(self):
        for call in (fault_reach, heals, letter_reach):
            self.assertEqual(samples.fields_of(call, samples.AT_601), ("TooMany", 600))
            self.assertEqual(samples.fields_of(call, samples.MANY_SETS_TOLD_0), ("TooMany", 2000))

    def test_too_many_triples(self):
        for call in (fault_reach, heals, letter_reach):
            self.assertEqual(samples.fields_of(call, MOST_OF_BOTH), ("TooMany", 20000))
        self.assertEqual(samples.fields_of(fault_reach, samples.counting(3)), ("TooMany", 20000))
        self.assertEqual(samples.fields_of(heals, samples.counting(3)), ("TooMany", 20000))
        self.assertEqual(letter_reach(samples.counting(3)), (7, 0))

    def test_nearly_too_many_triples(self):
        self.assertEqual(fault_reach(MANY_FAULTS), (0, 0))
        self.assertIs(heals(MANY_FAULTS), True)
        self.assertEqual(letter_reach(MANY_FAULTS), (1, -1))
        self.assertEqual(letter_reach(MANY_LETTERS), (-2, 2))
        self.assertEqual(fault_reach(MANY_LETTERS), (0, 0))

    def test_the_triples_are_counted(self):
        mills = [mill for mill in small(samples.likely_mills(177, 150), 16) if is_honest(mill)]
        for mill in mills[:40] + [samples.AHEAD, samples.NEXT_BUT_ONE, samples.DYING, KEPT]:
            slow = Beside(mill)
            for call, many in ((fault_reach, slow.fault_triples()), (heals, slow.fault_triples()),
                               (letter_reach, slow.letter_triples())):
                with unittest.mock.patch("merelylate.triples.MOST_TRIPLES", many):
                    self.assertIsNone(samples.fields_of(call, mill), mill)
                with unittest.mock.patch("merelylate.triples.MOST_TRIPLES", many - 1):
                    self.assertEqual(samples.fields_of(call, mill), ("TooMany", many - 1), mill)


if __name__ == "__main__":
    unittest.main()
