"""Points 17 and 18: eager mills, and how fast they tell."""

import itertools
import random
import unittest
import unittest.mock

import samples
from naive import Slow, small
from test_late import tell_alike
from merelylate.choices import is_honest, least_delay
from merelylate.eager import bursts, eager_mill, fast, run_eager, shows_eager
from merelylate.futures import sure

OF, IN = ("of", 0, 0), ("in", 0)
NOTHING = ((1, ()), (1, ()))
AHEAD_EAGER = (NOTHING, ((1, ((0,),)), (1, ((1,),))))
AHEAD_LARGER = (
    (((1, ()), (2, ())), ((2, ((0,),)), (1, ((1,),))), ((1, ((0,),)), (2, ((1,),)))),
    AHEAD_EAGER + (((0, ((2, 2, 2), (0,))), (1, ())),),
    (((2, ()), (2, ())), ((1, ()), (0, ())), ((2, ((0,),)), (2, ((1,),)))))
MIXED = (2, ((2, 0),), (0,), ((OF, ("pick", IN, ("is", 1), ("in", 1))),))
MIXED_EAGER = (((1, ()), (0, ((1,),))), ((1, ((0,),)), (0, ((1,), (1,)))))
# Where the letter is 1, the letter behind the next one; otherwise 0, which is sure while a tick ahead of it is owed.
SOMETIMES = (2, ((2, 0),), (0,), ((OF, ("pick", IN, ("in", 2), ("is", 0))),))
# The first letter says whether the letter or the next one is told. If the letter stays as it is for ever, the
# second name may be 2: then both have the same windows, one tick of which is owed in the one of them.
BOTH_WAYS = (2, ((2, 0), (3, 2)), (0,), (
    (OF, ("pick", ("same", ("of", 1, 0), ("is", 1)), ("in", 1), IN)),
    (("pick", ("same", ("of", 1, 0), ("is", 2)), ("plus", ("same", IN, ("in", 1)), ("same", ("of", 1, 1), ("is", 2))), (
        "is", 2)), ("is", 2)),
    (("pick", ("same", ("of", 1, 0), ("is", 2)), ("is", 1), (
        "pick", ("same", ("of", 1, -1), ("is", 2)), ("same", ("of", 1, 0), IN), ("same", ("of", 1, 0), ("of", 1, -1)))),
     ("is", 1))))
CALLS = (eager_mill, fast, bursts)


def told_by_words(mill, word):
    """What is told at each letter of a word: the ticks that have got sure, with all ahead of them."""
    found, before = [], 0
    slow = Slow(mill)
    for many in range(1, len(word) + 1):
        rows = slow.rows(word[:many])
        ticks = next((at for at in range(many) if len({row[at] for row in rows}) > 1), many)
        found.append(rows[0][before:ticks])
        before = ticks
    return tuple(found)


def honest_mills(many=400):
    mills = samples.likely_mills(201, many) + samples.random_mills(202, many // 2) + [
        samples.AHEAD, MIXED, SOMETIMES, samples.NEXT_BUT_ONE, samples.DYING]
    return [mill for mill in small(mills) if is_honest(mill)]


class RunTest(unittest.TestCase):

    def test_runs(self):
        self.assertEqual(run_eager(AHEAD_EAGER, ()), ())
        self.assertEqual(run_eager(AHEAD_EAGER, (1,)), ((),))
        self.assertEqual(run_eager(AHEAD_EAGER, (1, 0, 1)), ((), ((0,),), ((1,),)))
        self.assertEqual(run_eager(MIXED_EAGER, (1, 0, 1, 1)), (((1,),), (), ((1,), (1,)), ((1,),)))
        three = (((1, ((0,),) * 50), (2, ((1, 2), (2,))), (0, ())), ((1, ()),) * 3, ((0, ((2, 2, 2),)),) * 3)
        self.assertEqual(run_eager(three, (2, 1, 0, 0, 1)), ((), ((1, 2), (2,)), ((2, 2, 2),), ((0,),) * 50, ()))

    def test_letters(self):
        one = (((0, ((1,),)),),)
        self.assertEqual(run_eager(one, (0,) * 400), (((1,),),) * 400)
        self.assertEqual(samples.fields_of(run_eager, one, (0,) * 401), ("BadLetters",))
        self.assertEqual(samples.fields_of(run_eager, one, (1,)), ("BadLetters",))
        self.assertEqual(samples.fields_of(run_eager, AHEAD_EAGER, (0, 2)), ("BadLetters",))
        for letters in samples.NOTHINGS[:10] + ((0, True), (None,), [0], ("0",), ((0,),), (0, 10 ** 30), -1, None):
            self.assertEqual(samples.fields_of(run_eager, AHEAD_EAGER, letters), ("BadLetters",), letters)

    def wrong(self, machine):
        error = samples.fields_of(run_eager, machine, None)
        self.assertIn(error[0], ("BadEager", "BadLetters"))
        # The letters are wrong as well: they are asked for behind the machine.
        return error[1] if error[0] == "BadEager" else "none"

    def test_no_tuple_of_states(self):
        for machine in samples.NOTHINGS:
            if not isinstance(machine, tuple) or machine == ():
                self.assertIsNone(self.wrong(machine), machine)
        state = ((0, ()),)
        self.assertEqual(self.wrong((state,) * 2000), "none")
        self.assertIsNone(self.wrong((state,) * 2001))
        self.assertIsNone(self.wrong([state]))

    def test_wrong_states(self):
        good = ((0, ((0,),)), (1, ()))
        for state in (None, (), (None,), ((),), ((0,),) * 2, [(0, ()), (0, ())], ((0, ()), [0, ()]), "ab", ((0, (), ()), (0, ())),
                      ((0, ()),) * 4, ((3, ()), (0, ())), ((-1, ()), (0, ())), ((True, ()), (0, ())), ((0, ()), (False, ())),
                      ((0, ()), (0, None)), ((0, ()), (0, (0,))), ((0, ()), (0, ((),))), ((0, ()), (0, ((0,), ()))),
                      ((0, ()), (0, ((0, 0, 0, 0),))), ((0, ()), (0, ((3,),))), ((0, ()), (0, ((0,), (-1,)))),
                      ((0, ()), (0, ((True,),))), ((0, ()), (0, [(0,)])), ((0, ()), (0, ([0],))), ((0, ()), (0, 0)),
                      ((0, ()), (0, "")), ((0, ()), (0, (None,))), ((0, ()), (0, False)), ((0, ()), ("0", ())),
                      ((0, ()), (0, (((0,),),))), samples.nested(30000), {0: 1}, 7):
            self.assertEqual(self.wrong((good, state, good)), 1, state)
            self.assertEqual(self.wrong((state, good, good)), 0, state)
            self.assertEqual(self.wrong((good, good, state)), 2, state)
            self.assertEqual(self.wrong((good, state, state)), 1, state)

    def test_as_many_letters_as_the_first(self):
        one, two, three = [((0, ()),) * many for many in (1, 2, 3)]
        self.assertEqual(self.wrong((two, two, one)), 2)
        self.assertEqual(self.wrong((two, three, one)), 1)
        self.assertEqual(self.wrong((three, three)), "none")
        self.assertEqual(self.wrong((three, two, None)), 1)

    def test_late_mills_are_none(self):
        self.assertEqual(self.wrong((((0, None),),)), 0)
        self.assertEqual(self.wrong((((0, (0,)),),)), 0)


class EagerTest(unittest.TestCase):

    def test_answers(self):
        self.assertEqual(eager_mill(samples.AHEAD), AHEAD_EAGER)
        self.assertEqual(eager_mill(MIXED), MIXED_EAGER)
        self.assertEqual(eager_mill(samples.PLAIN), (((0, ((0,),)), (0, ((1,),))),))
        self.assertEqual(eager_mill(samples.BACK), (((0, ((0,),)), (1, ((0,),))), ((0, ((1,),)), (1, ((1,),)))))
        self.assertEqual(eager_mill(samples.DYING), (((0, ((0,),)), (0, ((0,),))),))
        self.assertEqual(eager_mill(samples.NEXT_BUT_ONE), (
            ((1, ()),) * 2, ((2, ()),) * 2, ((2, ((0,),)), (2, ((1,),)))))
        self.assertEqual(eager_mill(BOTH_WAYS), (((1, ((0,),)), (1, ())), ((1, ((0,),)), (1, ((1,),)))))

    def test_several_ticks_at_one_letter(self):
        # In turns of eight ticks all is told at the last one.
        machine = eager_mill(samples.ALTERNATING)
        told = run_eager(machine, (0,) * 16)
        self.assertEqual([len(one) for one in told], [0] * 7 + [8] + [0] * 7 + [8])
        self.assertEqual(told[7], ((1,), (0,)) * 4)
        self.assertEqual(run_eager(machine, (0,) * 6 + (1, 0))[7], ((1,), (0,)) * 4 if told[7][6] == (1,) else ((0,), (1,)) * 4)

    def test_a_sure_tick_waits_for_those_ahead_of_it(self):
        machine = eager_mill(SOMETIMES)
        self.assertEqual(run_eager(machine, (1, 0, 1)), ((), (), ((1,), (0,))))
        self.assertEqual(run_eager(machine, (0, 0, 1, 1, 1)), (((0,),), ((0,),), (), (), ((1,),)))

    def test_numbered_as_first_come_to(self):
        for mill in honest_mills():
            machine = eager_mill(mill)
            order = [0]
            for state in order:
                order += [after for after, _ in machine[state] if after not in order]
            self.assertEqual(list(dict.fromkeys(order)), list(range(len(machine))), mill)

    def test_tells_each_tick_as_soon_as_it_is_sure(self):
        seen = set()
        for mill in honest_mills():
            machine, slow, delay = eager_mill(mill), Slow(mill), least_delay(mill)
            for word in slow.words(5):
                told = run_eager(machine, word)
                self.assertEqual(told, told_by_words(mill, word), (mill, word))
                self.assertGreaterEqual(sum(map(len, told)), len(word) - delay)
                seen.update(map(len, told))
            certain = sure(mill, word)
            self.assertEqual(sum(told, ()), certain[:certain.index(None)] if None in certain else certain)
            self.assertIs(shows_eager(mill, machine), True)
        self.assertLessEqual({0, 1, 2, 3}, seen)

    def test_the_fewest_states(self):
        for mill in honest_mills():
            machine = eager_mill(mill)
            apart = set()
            for _ in machine:
                for one, other in itertools.combinations(range(len(machine)), 2):
                    for (after, told), (other_after, other_told) in zip(machine[one], machine[other]):
                        if told != other_told or tuple(sorted((after, other_after))) in apart:
                            apart.add((one, other))
            self.assertEqual(len(apart), len(machine) * (len(machine) - 1) // 2, mill)

    def test_not_honest(self):
        for mill in (samples.LONE, samples.FREE, samples.BARRED, samples.STUCK, samples.MANY_SETS):
            for call in CALLS:
                self.assertEqual(samples.fields_of(call, mill), ("NotHonest",))
            for value in samples.NOTHINGS + (AHEAD_EAGER,):
                self.assertEqual(samples.fields_of(shows_eager, mill, value), ("NotHonest",))

    def test_too_many(self):
        for call in CALLS:
            self.assertEqual(samples.fields_of(call, samples.counting(3)), ("TooMany", 2000))
            self.assertEqual(samples.fields_of(call, samples.MANY_SETS_TOLD_0), ("TooMany", 2000))
            self.assertEqual(samples.fields_of(call, samples.AT_601), ("TooMany", 600))
        self.assertEqual(samples.fields_of(shows_eager, samples.MANY_SETS_TOLD_0, None), ("TooMany", 2000))
        # To see whether a machine is one asks for no more sets than there are.
        self.assertIs(shows_eager(samples.counting(3), AHEAD_EAGER), False)
        self.assertIs(shows_eager(samples.counting(3), None), False)

    def test_the_limit_is_reached(self):
        # Behind no letter, one, and each two of them there are 1, 2 and 4 sets with what is owed.
        for most in range(5, 9):
            with unittest.mock.patch("merelylate.eager.MOST_STATES", most):
                wanted = ("TooMany", most) if most < 7 else None
                for call in CALLS:
                    self.assertEqual(samples.fields_of(call, samples.NEXT_BUT_ONE), wanted)


class ShowsEagerTest(unittest.TestCase):

    def test_larger_ones(self):
        for machine in (AHEAD_EAGER,) + AHEAD_LARGER:
            self.assertIs(shows_eager(samples.AHEAD, machine), True, machine)
            self.assertIs(shows_eager(samples.PLAIN, machine), False)
        self.assertIs(shows_eager(BOTH_WAYS, eager_mill(BOTH_WAYS)), True)
        self.assertIs(shows_eager(BOTH_WAYS, eager_mill(samples.AHEAD)), False)

    def test_the_answer_of_a_large_one(self):
        for mill in (samples.counting(2), samples.ALTERNATING):
            machine = eager_mill(mill)
            self.assertIs(shows_eager(mill, machine), True)
            self.assertIs(shows_eager(mill, machine + machine[:1]), True)
            for at in (0, 1, len(machine) // 2, len(machine) - 1):
                (after, told), other = machine[at]
                for step in ((after, told + ((0,) * len(mill[2]),)), (0 if after else 1, told)):
                    changed = machine[:at] + ((step, other),) + machine[at + 1:]
                    self.assertIs(shows_eager(mill, changed), False)

    def test_too_late(self):
        # It tells all that it must, but one tick later than it could.
        late = (((1, ()), (2, ())), ((1, ((0,),)), (2, ((0,),))), ((1, ((1,),)), (2, ((1,),))))
        self.assertIs(shows_eager(samples.PLAIN, late), False)
        self.assertIs(shows_eager(samples.AHEAD, late), False)
        # A tick late where the letter is 0 alone; and a tick that waits for no other one.
        mixed = (((1, ()), (0, ((1,),))), ((2, ()), (0, ((1,), (1,)))), ((2, ((0,),)), (0, ((0,), (1,), (1,)))))
        self.assertIs(shows_eager(MIXED, mixed), False)
        self.assertIs(shows_eager(MIXED, MIXED_EAGER), True)

    def test_too_early(self):
        one = (((0, ((0,),)), (0, ((1,),))),)
        for mill in (samples.AHEAD, samples.NEXT_BUT_ONE, MIXED, samples.counting(2)):
            self.assertIs(shows_eager(mill, one), False)

    def test_unlike_after_many_letters(self):
        states = [((at + 1, ((0,),)), (at + 1, ((1,),))) for at in range(1999)]
        for last, wanted in (((1999, ((1,),)), True), ((0, ((1,),)), True), ((0, ((0,),)), False), ((0, ()), False)):
            machine = tuple(states) + (((1999, ((0,),)), last),)
            self.assertEqual(len(machine), 2000)
            self.assertIs(shows_eager(samples.PLAIN, machine), wanted)

    def test_no_eager_mill(self):
        for value in samples.NOTHINGS + (AHEAD_EAGER * 1001, AHEAD_EAGER + (None,), samples.nested(30000)):
            self.assertIs(shows_eager(samples.AHEAD, value), False)
        for value in samples.spoiled(AHEAD_EAGER):
            self.assertIs(shows_eager(samples.AHEAD, value), False, value)

    def test_other_letters_and_names(self):
        for mill in (samples.AHEAD, samples.PLAIN, samples.DYING):
            machine = eager_mill(mill)
            self.assertIs(shows_eager(mill, tuple([state[:1] for state in machine])), False)
            self.assertIs(shows_eager(mill, tuple([state + state[:1] for state in machine])), False)
            self.assertIs(shows_eager(mill, tuple([tuple([(after, tuple([row + (0,) for row in told])) for after, told in state])
                                                   for state in machine])), False)

    def test_random_changes(self):
        chance = random.Random(203)
        seen = {True: 0, False: 0}
        for mill in honest_mills(300):
            machine = eager_mill(mill)
            many = len(machine)
            states = [[list(step) for step in state] for state in machine * 2]
            for step in [step for state in states for step in state]:
                step[0] += many * chance.randrange(2)
            for _ in range(chance.choice([0, 1, 2])):
                step = chance.choice(chance.choice(states))
                if chance.random() < 0.5:
                    step[0] = chance.randrange(2 * many)
                else:
                    step[1] = chance.choice([(), ((0,),), ((1,),), ((0, 1),), step[1] + ((0,),), step[1][1:]])
            changed = tuple(tuple(tuple(step) for step in state) for state in states)
            wanted = tell_alike(machine, changed)
            self.assertIs(shows_eager(mill, changed), wanted, (mill, changed))
            seen[wanted] += 1
        self.assertGreater(min(seen.values()), 20)


class FastTest(unittest.TestCase):

    def test_fast(self):
        self.assertEqual(fast(samples.PLAIN), (0, 1))
        self.assertEqual(fast(samples.AHEAD), ())
        self.assertEqual(fast(MIXED), (1,))
        self.assertEqual(fast(SOMETIMES), ())
        self.assertEqual(fast(samples.DYING), (0, 1))
        self.assertEqual(fast((1, ((2, 0),), (0,), ((OF, ("is", 0)),))), (0,))
        three = (3, ((2, 0),), (0,), ((OF, ("pick", ("same", IN, ("is", 1)), ("in", 1), ("is", 0))),))
        self.assertEqual(samples.fields_of(fast, three), ("NotHonest",))
        three = (3, ((3, 0),), (0,), ((OF, ("pick", ("same", IN, ("is", 1)), ("in", 1), ("is", 0))),))
        self.assertEqual(fast(three), (0, 2))

    def test_bursts(self):
        self.assertEqual(bursts(samples.PLAIN), 1)
        self.assertEqual(bursts(samples.AHEAD), 1)
        self.assertEqual(bursts(MIXED), 2)
        self.assertEqual(bursts(SOMETIMES), 3)
        self.assertEqual(bursts(samples.NEXT_BUT_ONE), 1)
        self.assertEqual(bursts(samples.ALTERNATING), 8)

    def test_the_same_over_all_words(self):
        seen = set()
        for mill in honest_mills(300):
            slow = Slow(mill)
            if len(eager_mill(mill)) > 5:
                continue
            # Words that long lead to all states, and on from there by each letter.
            told = {word: [len(one) for one in told_by_words(mill, word)] for word in slow.words(5)}
            self.assertEqual(bursts(mill), max(max(row) for row in told.values()))
            self.assertEqual(fast(mill), tuple(letter for letter in range(mill[0]) if all(
                many > 0 for word, row in told.items() for at, many in zip(word, row) if at == letter)), mill)
            seen.add((bursts(mill), len(fast(mill)) - mill[0]))
        self.assertLessEqual({(1, 0), (1, -2), (2, -1)}, seen)


if __name__ == "__main__":
    unittest.main()
