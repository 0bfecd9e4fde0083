"""Point 12: a mill at work."""

import random
import unittest
import unittest.mock

import samples
from naive import Slow, small
from merelylate.benches import Bench

# The letter is told, another name is free.
UNTOLD = (2, ((2, 0), (3, 0)), (0,), ((("of", 0, 0), ("in", 0)),))


def told(mill, column):
    return tuple([column[name + 1] for name in mill[2]])


class Model:
    """What a bench must do, by all ways of the word so far, filtered by what was chosen."""

    def __init__(self, mill):
        self.mill = mill
        self.slow = Slow(mill)
        self.word = []
        self.chosen = []

    def rows(self, word):
        rows = sorted({self.slow.columns_of(way) for way in self.slow.ways(word)})
        return [row for row in rows if all(row[:len(part)] == part for part in self.chosen)]

    def left(self):
        return tuple(self.rows(self.word))

    def read(self, letter):
        rows = self.rows(self.word + [letter])
        if not rows:
            return "BadStep"
        self.word.append(letter)
        return tuple(sorted({told(self.mill, row[-1]) for row in rows}))

    def back(self):
        if not self.word:
            return "BadStep"
        self.chosen = [part for part in self.chosen if len(part) < len(self.word)]
        self.word.pop()
        return None

    def choose(self, columns):
        if columns not in self.left():
            return "BadStep"
        self.chosen.append(columns)
        return None

    def sure(self):
        columns = [{row[tick] for row in self.left()} for tick in range(len(self.word))]
        return tuple([min(one) if len(one) == 1 else None for one in columns])


def outcome(call, *arguments):
    """What a call returns, or the name of its error."""
    try:
        return call(*arguments)
    except ValueError as error:
        return error.__class__.__name__


class BenchTest(unittest.TestCase):

    def state(self, bench):
        return bench.letters, bench.left, bench.sure()

    def unchanged(self, bench, error, call, *arguments):
        before = self.state(bench)
        self.assertEqual(samples.fields_of(call, *arguments), error, arguments)
        self.assertEqual(self.state(bench), before)

    def test_a_new_bench(self):
        for mill in (samples.AHEAD, samples.FREE, samples.BARRED, UNTOLD):
            self.assertEqual(self.state(Bench(mill)), ((), ((),), ()))

    def test_reading(self):
        bench = Bench(samples.AHEAD)
        self.assertEqual(bench.read(1), ((0,), (1,)))
        self.assertEqual(self.state(bench), ((1,), (((1, 0),), ((1, 1),)), (None,)))
        self.assertEqual(bench.read(0), ((0,), (1,)))
        self.assertEqual(self.state(bench), ((1, 0), (((1, 0), (0, 0)), ((1, 0), (0, 1))), ((1, 0), None)))
        self.assertIsNone(bench.back())
        self.assertEqual(self.state(bench), ((1,), (((1, 0),), ((1, 1),)), (None,)))
        self.assertIsNone(bench.back())
        self.assertEqual(self.state(bench), ((), ((),), ()))

    def test_what_is_told_twice_comes_once(self):
        bench = Bench(UNTOLD)
        self.assertEqual(bench.read(1), ((1,),))
        self.assertEqual(bench.left, (((1, 1, 0),), ((1, 1, 1),), ((1, 1, 2),)))
        self.assertEqual(bench.sure(), (None,))

    def test_back_without_a_letter(self):
        bench = Bench(samples.AHEAD)
        self.unchanged(bench, ("BadStep",), bench.back)
        bench.read(1)
        bench.back()
        self.unchanged(bench, ("BadStep",), bench.back)
        bench.choose(())
        self.unchanged(bench, ("BadStep",), bench.back)

    def test_letters(self):
        bench = Bench(samples.AHEAD)
        bench.read(1)
        for letter in samples.NOTHINGS + (2, "1", (1,), [1], {1: 1}, samples.nested(30000)):
            self.unchanged(bench, ("BadLetters",), bench.read, letter)
        three = Bench((3,) + samples.FREE[1:])
        self.assertEqual(three.read(2), ((0,), (1,)))
        self.unchanged(three, ("BadLetters",), three.read, 3)

    def test_no_open_history_goes_on(self):
        bench = Bench(samples.BARRED)
        self.assertEqual(bench.read(1), ((1,),))
        self.unchanged(bench, ("BadStep",), bench.read, 1)
        self.assertEqual(bench.read(0), ((0,),))
        self.assertEqual(bench.read(1), ((1,),))
        self.unchanged(bench, ("BadStep",), bench.read, 1)
        self.assertEqual(bench.letters, (1, 0, 1))

    def test_nothing_goes_on_by_what_was_chosen(self):
        bench = Bench(samples.AHEAD)
        bench.read(1)
        bench.choose(((1, 0),))
        self.unchanged(bench, ("BadStep",), bench.read, 1)
        self.assertEqual(bench.read(0), ((0,), (1,)))

    def test_no_history_at_all(self):
        bench = Bench(samples.STUCK)
        self.assertEqual(self.state(bench), ((), (), ()))
        self.unchanged(bench, ("BadStep",), bench.read, 0)
        self.unchanged(bench, ("BadStep",), bench.back)
        self.unchanged(bench, ("BadStep",), bench.choose, ())
        self.unchanged(bench, ("BadLetters",), bench.read, 1)

    def test_choosing(self):
        bench = Bench(samples.LONE)
        bench.read(0)
        bench.read(1)
        self.assertIsNone(bench.choose(((0, 1), (1, 1))))
        self.assertEqual(self.state(bench), ((0, 1), (((0, 1), (1, 1)),), ((0, 1), (1, 1))))
        self.assertEqual(bench.read(0), ((1,),))
        self.unchanged(bench, ("BadStep",), bench.choose, ((0, 0), (1, 0), (0, 0)))
        # The choice is gone with the second letter.
        bench.back()
        self.assertEqual(bench.left, (((0, 1), (1, 1)),))
        bench.back()
        self.assertEqual(self.state(bench), ((0,), (((0, 0),), ((0, 1),)), (None,)))
        self.assertEqual(bench.read(1), ((0,), (1,)))

    def test_several_choices(self):
        bench = Bench(samples.FREE)
        bench.read(0)
        bench.choose(((0, 1),))
        bench.choose(((0, 1),))
        self.unchanged(bench, ("BadStep",), bench.choose, ((0, 0),))
        bench.read(1)
        self.assertEqual(bench.left, (((0, 1), (1, 0)), ((0, 1), (1, 1))))
        bench.choose(((0, 1), (1, 0)))
        bench.read(0)
        self.assertEqual(bench.sure(), ((0, 1), (1, 0), None))
        bench.back()
        self.assertEqual(bench.left, (((0, 1), (1, 0)),))
        bench.back()
        self.assertEqual(bench.left, (((0, 1),),))
        bench.back()
        self.assertEqual(bench.left, ((),))
        bench.read(0)
        self.assertEqual(len(bench.left), 2)

    def test_columns_that_no_open_history_has(self):
        bench = Bench(samples.AHEAD)
        bench.choose(())
        self.unchanged(bench, ("BadStep",), bench.choose, ((0, 0),))
        bench.read(1)
        bench.read(0)
        for columns in ((), ((1, 0),), ((1, 0), (0, 0), (0, 0)), ((1, 1), (0, 0)), ((0, 0), (0, 0)), ((1, 0), (1, 0)),
                        ((1, 0), (0, 2)), ((1, 0), (2, 0)), ((1, 0), (0,)), ((1, 0), (0, 0, 0)), ((1, 0), None),
                        ((1, False), (0, 0)), ((True, 0), (0, 0)), ((1, 0), [0, 0]), [(1, 0), (0, 0)], ((1, 0), "00"),
                        "ab", {0: 1, 1: 0}, samples.nested(30000), (samples.nested(30000),) * 2, ((1, 0), {})):
            self.unchanged(bench, ("BadStep",), bench.choose, columns)
        for columns in samples.NOTHINGS:
            self.unchanged(bench, ("BadStep",), bench.choose, columns)
        bench.choose(((1, 0), (0, 1)))

    def test_too_many(self):
        bench = Bench(samples.FREE)
        for _ in range(14):
            self.assertEqual(bench.read(0), ((0,), (1,)))
        self.assertEqual(len(bench.left), 2 ** 14)
        self.unchanged(bench, ("TooMany", 20000), bench.read, 1)
        self.unchanged(bench, ("BadLetters",), bench.read, 2)
        bench.choose(((0, 1),) * 14)
        for _ in range(14):
            bench.read(1)
        self.assertEqual(bench.sure(), ((0, 1),) * 14 + (None,) * 14)
        self.unchanged(bench, ("TooMany", 20000), bench.read, 1)
        # Rows of columns are what is open, not what they tell: 3 ** 9 of them, and one tick more.
        other = Bench(UNTOLD)
        for _ in range(9):
            other.read(1)
        self.unchanged(other, ("TooMany", 20000), other.read, 1)

    def test_as_many_rows_as_may_be(self):
        bench = Bench(samples.FREE)
        with unittest.mock.patch("merelylate.benches.MOST_WAYS", 4):
            bench.read(0)
            bench.read(1)
            self.assertEqual(len(bench.left), 4)
            self.unchanged(bench, ("TooMany", 4), bench.read, 1)

    def test_more_letters_than_a_word_has(self):
        bench = Bench(samples.LONE)
        bench.read(0)
        bench.choose(((0, 1),))
        for _ in range(300):
            bench.read(0)
        self.assertEqual(bench.left, (((0, 1),) * 301,))
        bench.choose(((0, 1),) * 301)
        self.assertEqual(bench.sure(), ((0, 1),) * 301)

    def test_mills(self):
        for value in samples.NOTHINGS:
            self.assertEqual(samples.fields_of(Bench, value), ("BadMill", "mill"))
        self.assertEqual(samples.fields_of(Bench, samples.AT_601), ("TooMany", 600))
        self.assertEqual(samples.fields_of(Bench, (2, ((2, 0),), (1,), ())), ("BadMill", "told"))
        self.assertIsNone(samples.fields_of(Bench, samples.AT_600))

    def test_two_benches(self):
        one, other = Bench(samples.AHEAD), Bench(samples.AHEAD)
        one.read(1)
        self.assertEqual(other.letters, ())
        other.read(0)
        one.choose(((1, 1),))
        self.assertEqual(other.left, (((0, 0),), ((0, 1),)))
        self.assertEqual(one.left, (((1, 1),),))

    def test_the_interface_is_in_the_class(self):
        for name in ("read", "back", "choose", "sure", "letters", "left"):
            self.assertIn(name, vars(Bench))
        bench = Bench(samples.AHEAD)
        for name in ("letters", "left"):
            self.assertIsInstance(getattr(bench, name), tuple)

    def test_as_by_all_ways(self):
        chance = random.Random(121)
        mills = small(samples.random_mills(122, 150) + samples.random_mills(123, 100, 0, 2) +
                      samples.likely_mills(124, 100) + [samples.AHEAD, samples.LONE, samples.FREE, UNTOLD], 40)
        errors = 0
        for mill in mills:
            bench, model = Bench(mill), Model(mill)
            for _ in range(14):
                step = chance.choice(["read", "read", "read", "back", "choose", "choose"])
                if step == "read" and len(model.word) < 4:
                    arguments = (chance.randrange(mill[0]),)
                elif step == "choose":
                    rows = model.left() + tuple(model.slow.columns_of(way) for way in model.slow.ways(model.word))
                    arguments = (chance.choice(rows or ((),)),)
                else:
                    step, arguments = "back", ()
                wanted = getattr(model, step)(*arguments)
                self.assertEqual(outcome(getattr(bench, step), *arguments), wanted, (mill, step))
                self.assertEqual(self.state(bench), (tuple(model.word), model.left(), model.sure()), mill)
                errors += wanted == "BadStep"
        self.assertGreater(errors, 100)


if __name__ == "__main__":
    unittest.main()
