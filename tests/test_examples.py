"""The examples of the interface, word for word."""

import unittest

from merelylate.errors import BadMill
from merelylate.mills import holds, is_history, reach, tells
from merelylate.windows import live_windows, next_windows, sets_through, windows


class ExamplesTest(unittest.TestCase):

    def test_mills(self):
        ahead = (2, ((2, 0),), (0,), ((("of", 0, 0), ("in", 1)),))
        self.assertEqual(
            [reach(ahead), holds(ahead, ((1, 0), (0, 1)), 0), holds(ahead, ((1, 1), (0, 1)), 0),
             tells(ahead, ((1, 0), (0, 1)))],
            [(0, 1), True, False, ((0,), (1,))])
        self.assertIs(is_history(ahead, (((1, 0),), ((0, 0),))), True)
        with self.assertRaises(BadMill) as caught:
            reach((2, ((2, 0),), (1,), ()))
        self.assertEqual(caught.exception.part, "told")

    def test_windows(self):
        ahead = (2, ((2, 0),), (0,), ((("of", 0, 0), ("in", 1)),))
        self.assertEqual(
            [len(windows(ahead)), len(live_windows(ahead)), next_windows(ahead, (0, ((0, 0),)), 1),
             next_windows(ahead, (1, ((1, 0),)), 1)],
            [5, 5, ((1, ((1, 0),)), (1, ((1, 1),))), ()])
        self.assertEqual(
            sets_through(ahead, (1, 0)),
            (((0, ((0, 0),)),), ((1, ((1, 0),)), (1, ((1, 1),))), ((1, ((0, 0),)), (1, ((0, 1),)))))


if __name__ == "__main__":
    unittest.main()
