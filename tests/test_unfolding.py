"""Point 51: braidcomb/unfolding.py."""

import unittest

from braidcomb.rows import half, row_word
from braidcomb.unfolding import unfolded
from braidcomb.words import checked, mirrored, turned, upturned
from tests.hanging import hanging
from tests.samples import MOST_STRINGS, BraidCase, all_words, is_move, sample_words, thrown_word, walked

# Words of 48 crossings that take many exchanges, found by trying changes of thrown ones.
HARD = (
    (3, [-2] * 24 + [1] * 24),
    (4, [-3, -3, -3, -3, -3, -3, 2, -1, -1, -1, -1, -1, -1, -1, -2, -3, -3, -3, 1, -3, 2, 2, 2, -1, -1, -1, 2, 2, -1,
         -1, -1, 2, 2, 2, 2, 2, 2, 3, 3, 3, 3, 3, 3, 3, 3, 3, 3, 3]),
    (5, [-3, -3, -3, -3, -3, -3, -3, 2, -3, -3, -3, -3, -3, -1, -3, -4, -4, -2, -4, -4, -4, 3, 3, 3, -4, -3, 4, 1, 2,
         4, 4, 3, 3, 3, 3, 3, 1, 3, 3, 2, 2, 3, 3, 3, 3, 3, 3, 3]),
    (6, [-1, -1, -1, -1, -1, -1, -1, -1, -2, -2, -2, 3, 3, -2, -2, -2, 1, -2, -2, -2, -2, -2, 4, -2, -3, -3, 4, 5, 5,
         4, 4, 4, -3, 4, 4, 4, 4, 4, -3, 2, -1, 2, 2, 2, 2, 2, 2, 2]),
    (7, [-5, -5, -5, -5, -4, -4, -4, -4, -3, -3, -3, 4, -3, -3, -3, -3, -3, 2, -1, -3, -4, -2, -2, -2, -2, -3, 4, -1,
         4, 5, 5, -6, 5, 5, 4, 4, 4, 4, 3, 3, 3, 3, 2, 2, 2, 2, 2, 2]),
)


def below_ahead(n, length, seed=0):
    """A word with all crossings below nought ahead of those above."""
    word = [abs(k) for k in thrown_word(n, length, seed)]
    cut = len(word) // 2
    return [-k for k in word[:cut]] + word[cut:]


class Unfolded(BraidCase):
    def assert_unfolded(self, n, word):
        told = self.told(unfolded, n, word)
        self.assertIs(type(told), tuple)
        moves, last = told
        self.assertIs(type(moves), list)
        self.assertIs(type(last), list)
        self.assertTrue(all(is_move(move) for move in moves))
        self.assertTrue(all(type(k) is int for k in last))
        self.assertEqual(walked(n, word, moves), last)
        above = [k for k in last if k > 0]
        below = [k for k in last if k < 0]
        self.assertEqual(above + below, last)
        self.assertIs(checked(n, last), True)
        # The exchanges are walked above; this holds the walk itself against something else.
        self.assertEqual(hanging(n, last), hanging(n, word))
        return told

    def test_empty_word(self):
        for n in range(1, MOST_STRINGS + 1):
            moves, last = self.assert_unfolded(n, [])
            self.assertEqual((moves, last), ([], []))

    def test_one_below_ahead_of_one_above(self):
        for n in range(2, MOST_STRINGS + 1):
            for one in range(1, n):
                for other in range(1, n):
                    self.assert_unfolded(n, [-one, other])
                    self.assert_unfolded(n, [other, -one])

    def test_all_short_words(self):
        for n, longest in ((2, 6), (3, 5), (4, 4), (5, 3), (6, 3), (7, 3)):
            for word in all_words(n, longest):
                self.assert_unfolded(n, word)

    def test_thrown_words(self):
        for n, word in sample_words((1, 2, 3, 4, 5, 9, 16, 24, 33, 40, 47, 48)):
            self.assert_unfolded(n, word)
        for n in range(2, MOST_STRINGS + 1):
            for seed in range(1, 40):
                self.assert_unfolded(n, thrown_word(n, 48, seed))

    def test_words_with_all_below_ahead(self):
        for n in range(2, MOST_STRINGS + 1):
            for length in (2, 3, 9, 24, 48):
                for seed in range(5):
                    self.assert_unfolded(n, below_ahead(n, length, seed))
            for one in range(1, n):
                for other in range(1, n):
                    self.assert_unfolded(n, [-one] * 24 + [other] * 24)
                    self.assert_unfolded(n, [-one, other] * 24)

    def test_words_that_take_many_exchanges(self):
        for n, word in HARD:
            self.assertEqual(len(word), 48)
            for each in (word, turned(word), mirrored(word), upturned(word)):
                self.assert_unfolded(n, each)

    def test_words_of_one_sign(self):
        for n, word in sample_words((1, 9, 48)):
            above = [abs(k) for k in word]
            self.assertEqual(self.assert_unfolded(n, above)[1], above)
            self.assertEqual(self.assert_unfolded(n, mirrored(above))[1], mirrored(above))

    def test_words_with_their_turned_ones(self):
        for n, word in sample_words((1, 2, 9, 24)):
            self.assert_unfolded(n, turned(word) + word)
            self.assert_unfolded(n, word + turned(word))

    def test_half_turns(self):
        for n in range(2, MOST_STRINGS + 1):
            turn = row_word(half(n))
            for each in (turned(turn) + turn, turn + turned(turn), turned(turn) + upturned(turn)):
                self.assert_unfolded(n, each)

    def test_somewhat_longer_words(self):
        for n, word in sample_words((50, 60)):
            self.assert_unfolded(n, word)


if __name__ == "__main__":
    unittest.main()
