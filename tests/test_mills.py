"""What a mill is, and its reach (point 2)."""

import unittest

import samples
from merelylate.mills import reach

NAMES = ((2, 0), (3, 2))


def mill_of(*equations):
    return (2, NAMES, (0,), equations)


class ReachTest(unittest.TestCase):

    def test_no_equations(self):
        self.assertEqual(reach(samples.FREE), (0, 0))

    def test_back_ahead_both_and_neither(self):
        for offsets, expected in (
                ((0, 0), (0, 0)), ((-1, 0), (1, 0)), ((0, 1), (0, 1)), ((-2, 2), (2, 2)),
                ((1, -2), (2, 1)), ((1, 2), (0, 2)), ((-1, -2), (2, 0)), ((2, -1), (1, 2))):
            with self.subTest(offsets=offsets):
                sides = (("of", 1, offsets[0]), ("in", offsets[1]))
                self.assertEqual(reach(mill_of(sides)), expected)

    def test_the_most_of_all_equations(self):
        ahead = (("of", 0, 0), ("in", 1))
        back = (("of", 1, -2), ("is", 1))
        self.assertEqual(reach(mill_of(ahead, back)), (2, 1))
        self.assertEqual(reach(mill_of(back, ahead, (("in", 2), ("in", 2)))), (2, 2))

    def test_within_terms_of_every_kind(self):
        far = ("of", 0, -2)
        near = ("in", 1)
        one = ("is", 1)
        for term in (("plus", far, near), ("times", near, far), ("same", far, near), ("less", near, far),
                     ("pick", far, near, one), ("pick", one, far, near), ("pick", near, one, far),
                     ("rest", ("plus", far, near), 3)):
            with self.subTest(term=term):
                self.assertEqual(reach(mill_of((("is", 0), term))), (2, 1))

    def test_a_part_that_is_never_picked_counts(self):
        term = ("pick", ("is", 0), ("in", 2), ("is", 0))
        self.assertEqual(reach(mill_of((("is", 0), term))), (0, 2))

    def test_numbers_are_no_offsets(self):
        self.assertEqual(reach(mill_of((("is", 9), ("rest", ("of", 1, 0), 9)))), (0, 0))

    def test_against_the_naive_reckoning(self):
        for mill in samples.random_mills(1, 200):
            naive = samples.Naive(mill)
            self.assertEqual(reach(mill), (naive.back, naive.ahead))


class GoodMillTest(unittest.TestCase):

    def assert_good(self, mill):
        self.assertIsNone(samples.fields_of(reach, mill), mill)

    def test_letters(self):
        for letters in (1, 2, 3):
            self.assert_good((letters, NAMES, (0,), ()))

    def test_names(self):
        for names in (((2, 0),), ((2, 1),), ((3, 0),), ((3, 2),), ((2, 0), (2, 0), (3, 1))):
            self.assert_good((1, names, (0,), ()))

    def test_told(self):
        for told in ((0,), (1,), (2,), (0, 1), (0, 2), (1, 2), (0, 1, 2)):
            self.assert_good((1, ((2, 0),) * 3, told, ()))

    def test_equations(self):
        pair = (("in", 0), ("in", 0))
        for many in range(7):
            self.assert_good((1, NAMES, (0,), (pair,) * many))

    def test_edges_of_terms(self):
        for term in (("in", -2), ("in", 2), ("of", 0, -2), ("of", 1, 2), ("is", 0), ("is", 9),
                     ("rest", ("is", 0), 1), ("rest", ("is", 0), 9), samples.nested(5),
                     ("rest", samples.nested(4), 1), ("pick", ("is", 0), ("is", 0), samples.nested(4))):
            self.assert_good(mill_of((term, term)))


class BadMillTest(unittest.TestCase):

    def assert_bad(self, part, mill):
        with self.subTest(part=part, mill=mill):
            self.assertEqual(samples.fields_of(reach, mill), ("BadMill", part))

    def test_mill(self):
        for mill in samples.NOTHINGS + (2, (2, NAMES, (0,)), (2, NAMES, (0,), (), ()), list(samples.AHEAD)):
            self.assert_bad("mill", mill)

    def test_letters(self):
        for letters in samples.NOTHINGS + (0, 4, (2,)):
            self.assert_bad("letters", (letters, NAMES, (0,), ()))

    def test_names(self):
        for names in samples.NOTHINGS + (
                list(NAMES), ((2, 0),) * 4, ((2, 0), None), (2, 0), ((2,),), ((2, 0, 0),), ([2, 0],),
                ((1, 0),), ((4, 0),), ((2, 2),), ((3, 3),), ((2, -1),), ((2, True),), ((2, False),),
                ((True, 0),), (("2", 0),), ((2, "0"),), ((2, None),), ((2, (0,)),), ({2: 0},)):
            self.assert_bad("names", (2, names, (0,), ()))

    def test_told(self):
        for told in samples.NOTHINGS + (
                0, (-1,), (2,), (0, 0), (1, 0), (0, 1, 2), (0, 1, 1), (True,), (False,), (0, True),
                (False, 1), ("0",), ((0,),), ([0],), ({},), (0, None)):
            self.assert_bad("told", (2, NAMES, told, ()))

    def test_equations(self):
        pair = (("in", 0), ("in", 0))
        for equations in (None, True, 0, "", [], {}, [pair], pair, (pair,) * 7, (None,), ((),), (pair[:1],),
                          (pair + pair[:1],), (list(pair),), (pair, None), ("in",), ((("in", 0), None),)):
            self.assert_bad("equations", (2, NAMES, (0,), equations))

    def test_terms(self):
        one = ("is", 1)
        for term in samples.NOTHINGS + (
                1, "in", ("in",), ("in", 0, 0), ("in", 3), ("in", -3), ("in", True), ("in", None), ("in", "0"),
                ("of", 0), ("of", 2, 0), ("of", -1, 0), ("of", 0, 3), ("of", 0, -3), ("of", True, 0),
                ("of", 0, False), ("of", 0, 0, 0), ("is",), ("is", -1), ("is", 10), ("is", True), ("is", one),
                ("is", 1, 1), ("plus", one), ("plus", one, one, one), ("times", one), ("times", one, one, one),
                ("same", one), ("same", one, one, one), ("less", one), ("less", one, one, one),
                ("pick", one, one), ("pick", one, one, one, one), ("rest", one), ("rest", one, 0),
                ("rest", one, 10), ("rest", one, True), ("rest", one, one), ("rest", 1, 1), ("rest", one, 1, 1),
                ("plus", one, 1), ("plus", None, one), ("times", one, ("is", 10)), ("minus", one, one),
                ("", 0), (None, 0), (0, 0), ([], 0), ({}, 0), (("in",), 0), ["in", 0], ["plus", one, one],
                ("plus", ["is", 1], one), ("pick", one, one, ("of", 5, 0)), {"in": 0}):
            self.assert_bad("equations", mill_of((term, one)))
            self.assert_bad("equations", mill_of((one, one), (one, term)))

    def test_too_deep(self):
        for term in (samples.nested(6), ("rest", samples.nested(5), 2), ("times", samples.nested(5), ("is", 0)),
                     ("pick", samples.nested(5), ("is", 0), ("is", 0)), samples.nested(30000)):
            self.assertEqual(samples.fields_of(reach, mill_of((term, ("is", 1)))), ("BadMill", "equations"))

    def test_the_first_wrong_part_is_named(self):
        good = [2, NAMES, (0,), ()]
        parts = ("letters", "names", "told", "equations")
        for first in range(4):
            mill = tuple(good[:first] + [None] * (4 - first))
            self.assert_bad(parts[first], mill)
        self.assert_bad("letters", (True, None, None, ()))
        self.assert_bad("names", (2, ((2, 2),), (5,), None))


if __name__ == "__main__":
    unittest.main()
