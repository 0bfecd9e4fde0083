"""Point 8: late mills, what they tell, and which one is the smallest."""

import itertools
import random
import unittest
import unittest.mock

import samples
from naive import Slow, small
from merelylate.choices import is_honest, least_delay
from merelylate.late import late_mill, run_late, shows_late

AHEAD_LATE = (((1, None), (1, None)), ((1, (0,)), (1, (1,))))
# Other forms of the same: states doubled, one that is never come to, the first states unrolled.
AHEAD_LARGER = (
    (((1, None), (2, None)), ((2, (0,)), (1, (1,))), ((1, (0,)), (2, (1,)))),
    AHEAD_LATE + (((0, (2, 2, 2)), (1, None)),),
    (((2, None), (2, None)), ((1, None), (0, None)), ((2, (0,)), (2, (1,)))))


class RunTest(unittest.TestCase):

    def test_runs(self):
        self.assertEqual(run_late(AHEAD_LATE, ()), ())
        self.assertEqual(run_late(AHEAD_LATE, (1,)), (None,))
        self.assertEqual(run_late(AHEAD_LATE, (1, 1, 0)), (None, (1,), (0,)))
        three = (((1, (0,)), (2, (1, 2)), (0, None)), ((1, None),) * 3, ((0, (2, 2, 2)),) * 3)
        self.assertEqual(run_late(three, (2, 2, 1, 0, 0, 1, 2)), (
            None, None, (1, 2), (2, 2, 2), (0,), None, None))

    def test_letters(self):
        one = (((0, (1,)),),)
        self.assertEqual(run_late(one, (0,) * 400), ((1,),) * 400)
        self.assertEqual(samples.fields_of(run_late, one, (0,) * 401), ("BadLetters",))
        self.assertEqual(samples.fields_of(run_late, one, (1,)), ("BadLetters",))
        self.assertEqual(samples.fields_of(run_late, AHEAD_LATE, (0, 2)), ("BadLetters",))
        for letters in samples.NOTHINGS + ((0, True), (None,), [0], ("0",), ((0,),), (0, 10 ** 30)):
            if letters != ():
                self.assertEqual(samples.fields_of(run_late, AHEAD_LATE, letters), ("BadLetters",), letters)
            elif isinstance(letters, tuple):
                self.assertEqual(run_late(AHEAD_LATE, letters), ())

    def wrong(self, machine):
        error = samples.fields_of(run_late, machine, None)
        self.assertIn(error[0], ("BadLate", "BadLetters"))
        # The letters are wrong as well: they are asked for behind the machine.
        return error[1] if error[0] == "BadLate" else "none"

    def test_no_tuple_of_states(self):
        for machine in samples.NOTHINGS:
            if not isinstance(machine, tuple) or machine == ():
                self.assertIsNone(self.wrong(machine), machine)
        state = ((0, None),)
        self.assertEqual(self.wrong((state,) * 2000), "none")
        self.assertIsNone(self.wrong((state,) * 2001))
        self.assertIsNone(self.wrong([state]))

    def test_wrong_states(self):
        good = ((0, (0,)), (1, None))
        for state in (None, (), (None,), ((),), ((0,),) * 2, [(0, None), (0, None)], ((0, None), [0, None]), "ab",
                      ((0, None, None), (0, None)), ((0, None),) * 4, ((3, None), (0, None)), ((-1, None), (0, None)),
                      ((True, None), (0, None)), ((0, None), (False, None)), ((0, None), (0, ())),
                      ((0, None), (0, (0, 0, 0, 0))), ((0, None), (0, (3,))), ((0, None), (0, (-1,))),
                      ((0, None), (0, (True,))), ((0, None), (0, [0])), ((0, None), (0, 0)), ((0, None), (0, "0")),
                      ((0, None), (0, (None,))), ((0, None), (0, False)), ((0, None), ("0", None)),
                      samples.nested(30000), {0: 1}, 7):
            self.assertEqual(self.wrong((good, state, good)), 1, state)
            self.assertEqual(self.wrong((state, good, good)), 0, state)
            self.assertEqual(self.wrong((good, good, state)), 2, state)
            self.assertEqual(self.wrong((good, state, state)), 1, state)

    def test_as_many_letters_as_the_first(self):
        one, two, three = [((0, None),) * many for many in (1, 2, 3)]
        self.assertEqual(self.wrong((two, two, one)), 2)
        self.assertEqual(self.wrong((two, three, one)), 1)
        self.assertEqual(self.wrong((one, one, two)), 2)
        self.assertEqual(self.wrong((three, three)), "none")
        self.assertEqual(self.wrong((three, two, None)), 1)

    def test_number_of_the_next_state(self):
        for many in (1, 2, 3):
            state = ((many - 1, None),)
            self.assertEqual(self.wrong((state,) * many), "none")
            self.assertEqual(self.wrong((((many, None),),) * many), 0)


class LateTest(unittest.TestCase):

    def test_answers(self):
        self.assertEqual(late_mill(samples.AHEAD), AHEAD_LATE)
        self.assertEqual(late_mill(samples.PLAIN), (((0, (0,)), (0, (1,))),))
        # What it told first is 1, whatever the letter; then it tells the letter before.
        self.assertEqual(late_mill(samples.BACK), (((0, (0,)), (1, (0,))), ((0, (1,)), (1, (1,)))))
        self.assertEqual(late_mill(samples.DYING), (((0, (0,)), (0, (0,))),))
        self.assertEqual(late_mill(samples.NEXT_BUT_ONE), (
            ((1, None),) * 2, ((2, None),) * 2, ((2, (0,)), (2, (1,)))))

    def test_numbered_as_first_come_to(self):
        for mill in self.honest_mills():
            machine = late_mill(mill)
            order = [0]
            for state in order:
                order += [after for after, _ in machine[state] if after not in order]
            # The list grows while it is gone through: its letters in turn, its states in turn.
            self.assertEqual(list(dict.fromkeys(order)), list(range(len(machine))), mill)

    def honest_mills(self):
        mills = samples.likely_mills(91, 400) + samples.random_mills(92, 150)
        return [mill for mill in small(mills) if is_honest(mill)]

    def test_tells_what_all_histories_tell(self):
        for mill in self.honest_mills():
            machine, slow, delay = late_mill(mill), Slow(mill), least_delay(mill)
            for word in slow.words(5):
                wanted = tuple(slow.told_late(word[:many], delay) for many in range(1, 6))
                self.assertEqual(run_late(machine, word), wanted, mill)
            self.assertIs(shows_late(mill, machine), True)

    def test_the_fewest_states(self):
        for mill in self.honest_mills():
            machine = late_mill(mill)
            # States that some word tells apart, by words of one letter, two, and so on.
            apart = set()
            for _ in machine:
                for one, other in itertools.combinations(range(len(machine)), 2):
                    for (after, told), (other_after, other_told) in zip(machine[one], machine[other]):
                        if told != other_told or tuple(sorted((after, other_after))) in apart:
                            apart.add((one, other))
            self.assertEqual(len(apart), len(machine) * (len(machine) - 1) // 2, mill)

    def test_not_honest(self):
        for mill in (samples.LONE, samples.FREE, samples.BARRED, samples.STUCK, samples.MANY_SETS):
            self.assertEqual(samples.fields_of(late_mill, mill), ("NotHonest",))
            for value in samples.NOTHINGS + (AHEAD_LATE,):
                self.assertEqual(samples.fields_of(shows_late, mill, value), ("NotHonest",))

    def test_too_many(self):
        self.assertEqual(samples.fields_of(late_mill, samples.counting(3)), ("TooMany", 2000))
        self.assertEqual(samples.fields_of(late_mill, samples.MANY_SETS_TOLD_0), ("TooMany", 2000))
        self.assertEqual(samples.fields_of(shows_late, samples.MANY_SETS_TOLD_0, None), ("TooMany", 2000))
        # No sets with what is owed are reckoned to see whether a machine is one.
        self.assertIs(shows_late(samples.counting(3), AHEAD_LATE), False)
        self.assertGreater(len(late_mill(samples.counting(2))), 1000)

    def test_the_limit_is_reached(self):
        # Behind no letter, one, and each two of them there are 1, 2 and 4 sets with what isn't told yet.
        for most in range(5, 9):
            with unittest.mock.patch("merelylate.lateness.MOST_STATES", most):
                wanted = ("TooMany", most) if most < 7 else None
                self.assertEqual(samples.fields_of(late_mill, samples.NEXT_BUT_ONE), wanted)

    def test_shows_the_answer_of_a_large_one(self):
        mill = samples.counting(2)
        machine = late_mill(mill)
        self.assertIs(shows_late(mill, machine), True)
        for at in (0, 1, len(machine) // 2, len(machine) - 1):
            (after, told), other = machine[at]
            state = ((after, (1, 1) if told is None else None), other)
            self.assertIs(shows_late(mill, machine[:at] + (state,) + machine[at + 1:]), False)


class ShowsLateTest(unittest.TestCase):

    def test_larger_ones(self):
        for machine in (AHEAD_LATE,) + AHEAD_LARGER:
            self.assertIs(shows_late(samples.AHEAD, machine), True, machine)

    def test_too_early_and_too_late(self):
        plain, none = ((0, (0,)), (0, (1,))), ((1, None), (1, None))
        later = (none, ((2, None), (2, None)), ((2, (0,)), (2, (1,))))
        for mill, wanted in ((samples.PLAIN, (True, False, False)), (samples.AHEAD, (False, True, False)),
                             (samples.NEXT_BUT_ONE, (False, False, True))):
            for machine, right in zip(((plain,), AHEAD_LATE, later), wanted):
                self.assertIs(shows_late(mill, machine), right)
        # It tells the right thing one tick too late: the letter before that, from the third letter on.
        lagging = (((1, None), (2, None)), ((3, None), (4, None)), ((3, None), (4, None)),
                   ((3, (0,)), (4, (0,))), ((3, (1,)), (4, (1,))))
        self.assertIs(shows_late(samples.AHEAD, lagging), False)

    def test_unlike_after_many_letters(self):
        # A row of states that tell the letter, and a last one that doesn't: only after 199 letters.
        states = [((at + 1, (0,)), (at + 1, (1,))) for at in range(199)]
        right = tuple(states) + (((199, (0,)), (199, (1,))),)
        wrong = tuple(states) + (((199, (0,)), (199, (0,))),)
        self.assertIs(shows_late(samples.PLAIN, right), True)
        self.assertIs(shows_late(samples.PLAIN, wrong), False)
        ahead = (((1, None), (1, None)),)
        states = [((at + 2, (0,)), (at + 2, (1,))) for at in range(1999)]
        for last, wanted in (((1, (1,)), True), ((1, (0,)), False), ((0, (1,)), False), ((1, None), False)):
            machine = ahead + tuple(states[:1998]) + (((1, (0,)), last),)
            self.assertEqual(len(machine), 2000)
            self.assertIs(shows_late(samples.AHEAD, machine), wanted)

    def test_no_late_mill(self):
        for value in samples.NOTHINGS + (AHEAD_LATE * 1001, AHEAD_LATE + (None,), samples.nested(30000)):
            self.assertIs(shows_late(samples.AHEAD, value), False)
        for value in samples.spoiled(AHEAD_LATE):
            self.assertIs(shows_late(samples.AHEAD, value), False, value)

    def test_other_letters_and_names(self):
        for mill in (samples.AHEAD, samples.PLAIN, samples.DYING):
            machine = late_mill(mill)
            self.assertIs(shows_late(mill, tuple([state[:1] for state in machine])), False)
            self.assertIs(shows_late(mill, tuple([state + state[:1] for state in machine])), False)
            self.assertIs(shows_late(mill, tuple([tuple([(after, told and told + (0,)) for after, told in state])
                                                  for state in machine])), False)

    def test_random_changes(self):
        chance = random.Random(93)
        seen = {True: 0, False: 0}
        mills = [mill for mill in small(samples.likely_mills(94, 250)) if is_honest(mill)]
        for mill in mills:
            machine = late_mill(mill)
            many = len(machine)
            states = [[list(step) for step in state] for state in machine * 2]
            for step in [step for state in states for step in state]:
                step[0] += many * chance.randrange(2)
            for _ in range(chance.choice([0, 1, 2])):
                step = chance.choice(chance.choice(states))
                if chance.random() < 0.5:
                    step[0] = chance.randrange(2 * many)
                else:
                    step[1] = chance.choice([None, (0,), (1,), (0, 1)])
            changed = tuple(tuple(tuple(step) for step in state) for state in states)
            wanted = tell_alike(machine, changed)
            self.assertIs(shows_late(mill, changed), wanted, (mill, changed))
            seen[wanted] += 1
        self.assertGreater(min(seen.values()), 20)


def tell_alike(one, other):
    """Whether two machines tell the same for all words, by all pairs of states."""
    pairs = [(0, 0)]
    for first, second in pairs:
        for (after, told), (other_after, other_told) in zip(one[first], other[second]):
            if told != other_told:
                return False
            if (after, other_after) not in pairs:
                pairs.append((after, other_after))
    return True


if __name__ == "__main__":
    unittest.main()
