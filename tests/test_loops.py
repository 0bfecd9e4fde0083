"""Points 13 and 14: looping inputs, their histories, and what stays if the letter stays."""

import itertools
import unittest
import unittest.mock

import samples
from naive import Slow, small
from merelylate.loops import has_history, history_of, how_many, shows_history, steady, telling_of
from merelylate.mills import is_history

OF, IN = ("of", 0, 0), ("in", 0)
CALLS = (has_history, history_of, how_many, telling_of)
# The name is 0 or 1 at first; from 1 it may go back to 0 at any tick, but never from 0 to 1.
PARTS_ONCE = (1, ((2, 1), (2, 0)), (0,), ((("less", ("of", 0, -1), OF), ("is", 0)), (("of", 1, 0), OF)))
# The first name is free at one tick, the second one at all, and told is the first one.
HIDDEN = (2, ((2, 0), (2, 0)), (0,), ((OF, ("in", 1)),))
# What is told at tick 0 is free, and 0 from then on; the second name is 1 ahead of all ticks alone.
FREE_ONCE = (2, ((2, 0), (2, 1)), (0,), ((("of", 1, 0), ("is", 0)), (("times", OF, ("same", ("of", 1, -1), ("is", 0))), ("is", 0))))
# The first name keeps what it is at tick 0. If that is 0 the second one goes through turns of eight
# ticks; otherwise it stays as it is.
LONG_OR_SHORT = (2, ((2, 0), (3, 1)), (0,), ((OF, ("of", 0, 1)), (
    ("of", 1, 0), ("pick", OF, ("is", 1), ("rest", ("plus", ("of", 1, -1), ("of", 1, -2)), 3)))))
# As many letters that no shorter loop comes to the same.
LONE_1 = (1,) + (0,) * 58
WORDS = (((), (0,)), ((), (1,)), ((0,), (1,)), ((1, 1), (0, 1)), ((1,), (0, 0, 1)), ((), (1, 0, 1, 0)), ((0, 1, 1), (1, 1)))


def letters_at(word, many):
    """The first letters of a looping word."""
    stem, loop = word
    return tuple((stem + loop * many)[:many])


class SlowLoop(Slow):
    """Histories of a looping word, by plain steps through windows at places of the word."""

    def __init__(self, mill, word):
        super().__init__(mill)
        stem, loop = word
        self.word = stem + loop
        self.turn = len(stem)
        going = {(place, window) for place in range(len(self.word)) for window in self.live}
        fewer = None
        while fewer != going:
            fewer = going
            going = {node for node in going if any(after in going for after in self.onward(node))}
        self.going = going
        self.first = {(0, window) for window in self.beginnings()} & going

    def onward(self, node):
        place, window = node
        after = place + 1 if place + 1 < len(self.word) else self.turn
        return [(after, one) for one in self.steps[window, self.word[place]]]

    def many(self):
        """How many ways of as many ticks as there are nodes there are, if as many as of twice as many ticks."""
        counts = []
        now = dict.fromkeys(self.first, 1)
        for _ in range(2):
            for _ in range(len(self.going) + 1):
                fresh = {}
                for node, number in now.items():
                    for after in self.onward(node):
                        if after in self.going:
                            fresh[after] = fresh.get(after, 0) + number
                now = fresh
            counts.append(sum(now.values()))
        return counts[0] if counts[0] == counts[1] else "endless"

    def telling(self):
        """What is told, tick by tick, until the same nodes come again; the shortest form of it."""
        now = frozenset(self.first)
        known, told = {}, []
        while now not in known:
            known[now] = len(told)
            now = frozenset(after for node in now for after in self.onward(node) if after in self.going)
            told.append({self.told_in(window) for _, window in now})
        if any(len(one) != 1 for one in told):
            return None
        row = [one.pop() for one in told]
        many = 2 * len(row)
        begun = known[now]
        long = row + row[begun:] * (3 * many)
        for loop in range(1, len(row) + 1):
            for stem in range(len(row) + 1):
                if all(long[at] == long[at + loop] for at in range(stem, many)):
                    return tuple(long[:stem]), tuple(long[stem:stem + loop])


def unlike_values():
    """Values that are no looping word of two letters, but for one of them, all are close to one."""
    yield from samples.NOTHINGS
    yield from samples.spoiled(((0, 1), (1, 0)))
    yield from (((), ()), ((0,), ()), ((0,) * 60, ()), ((), (2,)), ((2,), (0,)), ((), (-1,)), ((), [0]), ([], (0,)),
                ((), (0,), ()), ((0,), 0), ((True,), (0,)), ((), (False,)), "01", ("0", "1"), (((),), (0,)),
                ((0,) * 60, (0,)), ((), (0,) * 61), ((0,) * 61, (0,)), ((0,) * 30, (1,) * 31), ((0,) * 10 ** 5,) * 2)


class WordTest(unittest.TestCase):

    def test_60_letters_and_61(self):
        for word in (((), (0,) * 60), ((0,) * 59, (1,)), ((1,) * 30, (0, 1) * 15)):
            self.assertIs(has_history(samples.AHEAD, word), True)
            self.assertEqual(how_many(samples.AHEAD, word), 1)
            value = history_of(samples.AHEAD, word)
            self.assertIs(shows_history(samples.AHEAD, word, value), True)
            longer = (word[0], word[1] + (0,))
            for call in CALLS:
                self.assertEqual(samples.fields_of(call, samples.AHEAD, longer), ("BadLetters",))
            self.assertEqual(samples.fields_of(shows_history, samples.AHEAD, longer, None), ("BadLetters",))

    def test_values_that_are_none(self):
        good = 0
        for word in unlike_values():
            fields = samples.fields_of(has_history, samples.AHEAD, word)
            good += fields is None
            if fields is None:
                self.assertEqual([type(part) for part in word], [tuple, tuple])
                self.assertLessEqual(set(word[0] + word[1]), {0, 1})
                self.assertGreater(len(word[1]), 0)
            else:
                self.assertEqual(fields, ("BadLetters",))
                for call in CALLS[1:]:
                    self.assertEqual(samples.fields_of(call, samples.AHEAD, word), fields, word)
                self.assertEqual(samples.fields_of(shows_history, samples.AHEAD, word, None), fields, word)
        # With one letter less there is still one, four times.
        self.assertLessEqual(good, 8)

    def test_the_letters_are_those_of_the_mill(self):
        for letters in (1, 2, 3):
            mill = (letters, ((2, 0),), (0,), ())
            self.assertIs(has_history(mill, ((letters - 1,), (letters - 1,))), True)
            for word in (((letters,), (0,)), ((), (letters,))):
                self.assertEqual(samples.fields_of(has_history, mill, word), ("BadLetters",))


class HistoryTest(unittest.TestCase):

    def test_empty_stems(self):
        self.assertEqual(history_of(samples.AHEAD, ((), (0, 1))), ((), ((0, 1), (1, 0))))
        self.assertEqual(history_of(samples.PLAIN, ((), (1,))), ((), ((1, 1),)))
        self.assertEqual(history_of(samples.BACK, ((), (1,))), (((1, 0),), ((1, 1),)))

    def test_inputs_without_one(self):
        for mill, word in ((samples.BARRED, ((), (1,))), (samples.BARRED, ((0, 1, 1), (0,))), (samples.STUCK, ((), (0,))),
                           (samples.BARRED, ((1,), (1, 0))), (samples.BARRED, ((0,), (0, 1, 1, 0)))):
            self.assertIs(has_history(mill, word), False)
            self.assertIsNone(history_of(mill, word))
            self.assertEqual(how_many(mill, word), 0)
            self.assertIsNone(telling_of(mill, word))
            self.assertIs(shows_history(mill, word, None), True)
            self.assertIs(shows_history(mill, word, ((), tuple((letter, letter) for letter in word[1]))), False)

    def test_inputs_beside_paradoxes(self):
        for word in (((), (0,)), ((), (1, 0)), ((1,), (0, 1))):
            self.assertIs(has_history(samples.BARRED, word), True)
            self.assertIs(shows_history(samples.BARRED, word, None), False)

    def test_one_several_and_endlessly_many(self):
        self.assertEqual(how_many(samples.AHEAD, ((1,), (0,))), 1)
        self.assertEqual(how_many(samples.LONE, ((1,), (0,))), 2)
        self.assertEqual(how_many(FREE_ONCE, ((1,), (0,))), 2)
        # That part once, at any tick; and that part again and again.
        self.assertEqual(how_many(PARTS_ONCE, ((), (0,))), "endless")
        self.assertEqual(how_many(samples.FREE, ((), (0,))), "endless")
        self.assertEqual(how_many(HIDDEN, ((1,), (0,))), "endless")
        self.assertEqual(how_many(samples.STUCK, ((), (0,))), 0)

    def test_many_that_part_while_the_letter_is_1(self):
        # The second name is free where the letter is 1, and 0 otherwise.
        mill = (2, ((2, 0), (3, 0)), (0,), ((OF, IN), (("pick", IN, ("is", 0), ("of", 1, 0)), ("is", 0))))
        for many in range(7):
            self.assertEqual(how_many(mill, ((1,) * many, (0,))), 3 ** many)
        self.assertEqual(how_many(mill, ((1,) * 59, (0,))), 3 ** 59)
        self.assertEqual(how_many(mill, ((0, 1) * 29, (0, 0))), 3 ** 29)
        self.assertEqual(how_many(mill, ((), (0,) * 59 + (1,))), "endless")
        self.assertEqual(telling_of(mill, ((1,) * 59, (0,))), (((1,),) * 59, ((0,),)))

    def test_parting_and_meeting(self):
        # The second name is free at a tick with the letter 1; where it is 1 it must be 0 next, so that the ways meet.
        mill = (2, ((2, 0), (2, 0)), (0,), ((OF, IN), (("less", IN, ("of", 1, 0)), ("is", 0)), (
            ("times", ("of", 1, 0), ("of", 1, 1)), ("is", 0))))
        self.assertEqual([how_many(mill, ((1,) * many, (0,))) for many in range(6)], [1, 2, 3, 5, 8, 13])
        self.assertEqual(how_many(mill, ((), (1, 0))), "endless")

    def test_the_same_by_plain_steps(self):
        found = set()
        mills = (samples.random_mills(131, 120) + samples.random_mills(132, 100, 0, 1) + samples.likely_mills(133, 150) +
                 samples.random_mills(134, 60, 0, 2) + [PARTS_ONCE, HIDDEN, FREE_ONCE, samples.LONE_BARRED])
        for mill in small(mills):
            for stem, loop in WORDS:
                word = tuple(tuple(letter % mill[0] for letter in part) for part in (stem, loop))
                slow = SlowLoop(mill, word)
                many = slow.many()
                self.assertEqual(how_many(mill, word), many, (mill, word))
                self.assertIs(has_history(mill, word), many != 0)
                telling = slow.telling() if many != 0 else None
                self.assertEqual(telling_of(mill, word), telling, (mill, word))
                value = history_of(mill, word)
                self.assertIs(value is None, many == 0)
                self.assertIs(shows_history(mill, word, value), True, (mill, word))
                found.add((many if many in (0, 1, 2, "endless") else "more", telling is None))
        self.assertLessEqual({(0, True), (1, False), (2, True), ("endless", True), ("endless", False), (2, False),
                              ("more", True)}, found)


class ShowsTest(unittest.TestCase):

    def test_other_right_histories(self):
        mill, word = samples.AHEAD, ((1,), (0, 1))
        stem, loop = history_of(mill, word)
        self.assertIs(shows_history(mill, word, (stem, loop)), True)
        self.assertIs(shows_history(mill, word, (stem, loop + loop)), True)
        self.assertIs(shows_history(mill, word, (stem + loop, loop)), True)
        self.assertIs(shows_history(mill, word, (stem + loop[:1], loop[1:] + loop[:1])), True)
        self.assertIs(shows_history(mill, word, (stem + loop * 3, loop * 3)), True)
        # The same word by a longer stem and loop.
        for other in (((1, 0), (1, 0)), ((1, 0, 1), (0, 1, 0, 1)), ((), (1, 0))):
            self.assertIs(shows_history(mill, other, (stem, loop)), True)
            self.assertIs(shows_history(mill, other, history_of(mill, word)), True)

    def test_one_of_several(self):
        for value in (((), ((0, 0),)), ((), ((0, 1),)), (((0, 0),), ((0, 0), (0, 0)))):
            self.assertIs(shows_history(samples.LONE, ((), (0, 0)), value), True)
        for value in itertools.product([()], itertools.product([(0, 0), (0, 1)], repeat=2)):
            self.assertIs(shows_history(samples.FREE, ((), (0,)), value), True)

    def test_histories_changed_at_one_place(self):
        mill, word = samples.AHEAD, ((1, 1, 0), (0, 1))
        stem, loop = history_of(mill, word)
        for at in range(len(stem) + len(loop)):
            for part in range(2):
                row = [list(column) for column in stem + loop]
                row[at][part] = 1 - row[at][part]
                row = tuple(map(tuple, row))
                self.assertIs(shows_history(mill, word, (row[:len(stem)], row[len(stem):])), False)
        for other in samples.spoiled((stem, loop)):
            self.assertIs(shows_history(mill, word, other), False, other)

    def test_histories_of_another_input(self):
        mill = samples.AHEAD
        words = [(stem, loop) for many in range(3) for stem in itertools.product(range(2), repeat=many)
                 for loop in ((0,), (1,), (0, 1), (0, 0, 1))]
        for one, other in itertools.product(words, repeat=2):
            same = letters_at(one, 12) == letters_at(other, 12)
            self.assertIs(shows_history(mill, one, history_of(mill, other)), same)

    def test_values_of_every_kind(self):
        for value in samples.NOTHINGS + (samples.nested(30000), ((), ()), (((0, 0),), ()), ((), ((0, 0),), ()),
                                         ((), (0, 0)), ((), [(0, 0)]), ((), ((0, 0),) * 201)):
            self.assertIs(shows_history(samples.AHEAD, ((), (0,)), value), False)
        self.assertIs(shows_history(samples.AHEAD, ((), (0,)), ((), ((0, 0),) * 200)), True)
        self.assertIs(shows_history(samples.AHEAD, ((), (0,)), (((0, 0),) * 100, ((0, 0),) * 101)), False)


class ColumnsTest(unittest.TestCase):

    def test_more_than_200_columns(self):
        # 8 ticks of the mill, and 59 letters: 472 columns.
        word = ((), LONE_1)
        mill = samples.counting(2)
        self.assertEqual(samples.fields_of(history_of, mill, word), ("TooMany", 200))
        self.assertEqual(how_many(mill, word), 1)
        self.assertIs(has_history(mill, word), True)
        for value in (None, ((), ((0, 0, 0, 0),))):
            self.assertIs(shows_history(mill, word, value), False)
        self.assertEqual(len(telling_of(samples.PLAIN, word)[1]), 59)

    def test_long_tellings(self):
        # A telling has no limit: the name that goes round in 8 ticks, and a letter of 59.
        mill = (2, ((3, 1), (2, 0)), (0, 1), ((OF, ("rest", ("plus", ("of", 0, -1), ("of", 0, -2)), 3)), (("of", 1, 0), IN)))
        stem, loop = telling_of(mill, ((), LONE_1))
        self.assertEqual([len(stem), len(loop)], [0, 472])
        self.assertEqual([told[1] for told in loop], list(LONE_1) * 8)
        self.assertEqual([told[0] for told in loop], [2, 0, 2, 2, 1, 0, 1, 1] * 59)
        self.assertEqual(samples.fields_of(history_of, mill, ((), LONE_1)), ("TooMany", 200))

    def test_the_shortest_is_found(self):
        # The first way that is tried has 472 columns.
        value = history_of(LONG_OR_SHORT, ((), LONE_1))
        self.assertEqual(value, ((), tuple([(letter, 1, 1) for letter in LONE_1])))
        self.assertIs(shows_history(LONG_OR_SHORT, ((), LONE_1), value), True)
        self.assertEqual(how_many(LONG_OR_SHORT, ((), LONE_1)), 2)

    def test_the_limit_is_reached(self):
        for mill, word, many in ((LONG_OR_SHORT, ((), LONE_1), 59), (samples.AHEAD, ((1, 0, 0), (1, 1, 0)), 5),
                                 (samples.counting(2), ((1,), (0,)), 9), (samples.LONE, ((), (0,) * 60), 1),
                                 (LONG_OR_SHORT, ((1, 0, 0), (1,)), 4)):
            with unittest.mock.patch("merelylate.loops.MOST_COLUMNS", many):
                value = history_of(mill, word)
                self.assertIs(is_history(mill, value), True)
                self.assertEqual(len(value[0]) + len(value[1]), many)
            with unittest.mock.patch("merelylate.loops.MOST_COLUMNS", many - 1):
                self.assertEqual(samples.fields_of(history_of, mill, word), ("TooMany", many - 1))

    def test_as_few_columns_as_any_history_has(self):
        for mill in small(samples.random_mills(135, 60, -1, 1) + samples.random_mills(136, 40), 25):
            for word in (((), (0,)), ((0,), (0, mill[0] - 1))):
                shortest = [many for many in range(1, 6) if self.has_of(mill, word, many)][:1]
                for many in shortest:
                    with unittest.mock.patch("merelylate.loops.MOST_COLUMNS", many):
                        value = history_of(mill, word)
                    self.assertIs(shows_history(mill, word, value), True)
                    with unittest.mock.patch("merelylate.loops.MOST_COLUMNS", many - 1):
                        self.assertEqual(samples.fields_of(history_of, mill, word), ("TooMany", many - 1))

    def has_of(self, mill, word, many):
        """Whether some looping pair of so many columns in all is a history of a word."""
        slow = Slow(mill)
        for loop in range(1, many + 1):
            letters = letters_at(word, 40)
            if any(letters[at] != letters[at + loop] for at in range(many - loop, 39 - loop)):
                continue
            rows = [[column for column in slow.columns if column[0] == letter] for letter in letters[:many]]
            for row in itertools.product(*rows):
                if slow.is_history(row[:many - loop], row[many - loop:]):
                    return True
        return False


class TellingTest(unittest.TestCase):

    def test_the_shortest_loop_and_then_stem(self):
        self.assertEqual(telling_of(samples.AHEAD, ((1, 1, 1), (0, 1, 0, 1))), (((1,),), ((1,), (0,))))
        self.assertEqual(telling_of(samples.PLAIN, ((0, 1, 0), (1, 0))), ((), ((0,), (1,))))
        self.assertEqual(telling_of(samples.PLAIN, ((1, 1), (1, 1, 1))), ((), ((1,),)))
        self.assertEqual(telling_of(samples.BACK, ((), (1,))), (((0,),), ((1,),)))
        # What is told loops in one tick, whatever the input does.
        mill = (2, ((2, 0),), (0,), ((OF, ("is", 1)),))
        self.assertEqual(telling_of(mill, ((0, 1, 1), (0, 0, 1))), ((), ((1,),)))
        # The name 2 of this mill goes round in eight ticks, the name 1 is told.
        self.assertEqual(telling_of(samples.ALTERNATING, ((), (0,))), ((), ((1,), (0,))))

    def test_several_that_tell_the_same(self):
        self.assertEqual(how_many(HIDDEN, ((1,), (0,))), "endless")
        self.assertEqual(telling_of(HIDDEN, ((1, 1), (0,))), (((1,),), ((0,),)))

    def test_several_that_tell_unlike_things(self):
        for mill in (samples.LONE, samples.FREE, FREE_ONCE, PARTS_ONCE):
            self.assertIsNone(telling_of(mill, ((), (0,))))
        # They part behind the stem alone.
        mill = (2, ((2, 0),), (0,), ((("times", OF, ("is", 1)), ("times", OF, IN)),))
        self.assertEqual(telling_of(mill, ((0, 0), (0,))), ((), ((0,),)))
        self.assertIsNone(telling_of(mill, ((0, 0, 1), (0,))))
        self.assertIsNone(telling_of(mill, ((), (0, 0, 0, 1))))

    def test_the_empty_word_a_paradox(self):
        self.assertIsNone(telling_of(samples.STUCK, ((), (0,))))


class SteadyTest(unittest.TestCase):

    def test_none_one_and_several(self):
        self.assertEqual(steady(samples.BARRED, 1), ())
        self.assertEqual(steady(samples.BARRED, 0), ((0, 0),))
        self.assertEqual(steady(samples.AHEAD, 1), ((1, 1),))
        self.assertEqual(steady(samples.BACK, 1), ((1, 1),))
        self.assertEqual(steady(samples.LONE, 1), ((1, 0), (1, 1)))
        self.assertEqual(steady(samples.STUCK, 0), ())
        self.assertEqual(steady(samples.WIDE, 1), ((1, 1),))
        free = (3, ((2, 0), (3, 1)), (0,), ())
        self.assertEqual(steady(free, 2), tuple(itertools.product((2,), range(2), range(3))))

    def test_offsets_of_both_signs(self):
        for one, other in itertools.product(range(-2, 3), repeat=2):
            mill = (3, ((3, 0),), (0,), ((("of", 0, one), ("rest", ("plus", ("in", other), ("of", 0, -one)), 3)),))
            self.assertEqual(steady(mill, 0), ((0, 0), (0, 1), (0, 2)))
            self.assertEqual(steady(mill, 1), ())

    def test_the_column_before_is_put_in_its_place(self):
        # By the first values the name would have to be 2 at tick 0.
        mill = (1, ((3, 2),), (0,), ((OF, ("of", 0, -1)),))
        self.assertEqual(steady(mill, 0), ((0, 0), (0, 1), (0, 2)))

    def test_letters(self):
        for letter in samples.NOTHINGS + (2, -1, "1", (1,), 1.5):
            if letter != 0 or isinstance(letter, bool):
                self.assertEqual(samples.fields_of(steady, samples.AHEAD, letter), ("BadLetters",), letter)
        self.assertEqual(samples.fields_of(steady, None, 7), ("BadMill", "mill"))

    def test_windows_are_not_counted(self):
        self.assertEqual(steady(samples.AT_601, 2), tuple(itertools.product((2,), (1, 2), range(2), range(2))))

    def test_against_histories(self):
        for mill in samples.random_mills(137, 300) + samples.likely_mills(138, 200):
            slow = samples.Naive(mill)
            for letter in range(mill[0]):
                wanted = []
                for column in slow.columns:
                    slow.before = column
                    if column[0] == letter and slow.is_history((), (column,)):
                        wanted.append(column)
                self.assertEqual(steady(mill, letter), tuple(wanted), mill)


if __name__ == "__main__":
    unittest.main()
