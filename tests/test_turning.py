"""What tests/turning.py tells is the same for words that are alike, and tells others apart."""

import unittest

from braidcomb.words import turned
from tests.samples import Dice, sample_words, thrown_word, walk
from tests.turning import turning


class Turning(unittest.TestCase):
    def test_exchanges_change_nothing(self):
        for n, word in sample_words((0, 1, 5, 9)):
            for other in walk(n, word, 20, Dice(n)):
                self.assertEqual(turning(n, other), turning(n, word))

    def test_turning_changes_nothing(self):
        for n, word in sample_words((0, 1, 5, 9)):
            for length in (1, 2, 7):
                t = thrown_word(n, length, 5)
                self.assertEqual(turning(n, turned(t) + word + t), turning(n, word))

    def test_words_told_apart(self):
        for n, one, other in ((2, [1], [-1]), (3, [1], [1, 1, 1, 2, -1]), (4, [1, 2], [1, 3]), (3, [1, 1, 1], [1, 2, 2])):
            self.assertNotEqual(turning(n, one), turning(n, other))


if __name__ == "__main__":
    unittest.main()
