"""Words to test with, and a test case that knows what a refusal is."""

import copy
import unittest

from braidcomb import errors

REFUSALS = (
    errors.NoWord, errors.BadText, errors.NoMove, errors.NoRow, errors.NoForm,
    errors.Unlike, errors.NoString, errors.BadPicture, errors.TooMany,
)
MOST_STRINGS = 7
LENGTHS = (0, 1, 2, 3, 4, 5, 9, 40, 333, 4000)
# More figures than Python turns into a text, so an error that tells them fails by itself.
VAST = 10 ** 5000


class Dice:
    """Numbers that look thrown and are the same on every Python."""

    def __init__(self, seed):
        self.state = seed * 2 + 1

    def below(self, many):
        self.state = (self.state * 6364136223846793005 + 1442695040888963407) % 2 ** 64
        return (self.state >> 33) % many


def crossings(n):
    return list(range(-(n - 1), 0)) + list(range(1, n))


def thrown_word(n, length, seed=0):
    """A word of n strings; one string has the empty word alone."""
    if n == 1:
        return []
    dice = Dice(1000 * n + length + 7919 * seed)
    choice = crossings(n)
    return [choice[dice.below(len(choice))] for _ in range(length)]


def sample_words(lengths=LENGTHS):
    """Tuples of n and a word, for each n from 1 to 7."""
    return [(n, thrown_word(n, length)) for n in range(1, MOST_STRINGS + 1) for length in lengths]


def all_words(n, longest):
    """All words of n strings with at most so many crossings."""
    level = [[]]
    words = [[]]
    for _ in range(longest):
        level = [word + [k] for word in level for k in crossings(n)]
        words.extend(level)
    return words


class BraidCase(unittest.TestCase):
    """A test case that looks at kinds, at refusals and at what was handed in."""

    def told(self, deed, *given):
        """What a deed tells, once it is sure that nothing handed in was changed or told again."""
        kept = copy.deepcopy(given)
        answer = deed(*given)
        self.assertEqual(given, kept, "what was handed in was changed")
        for thing in given:
            if isinstance(thing, list):
                self.assertIsNot(answer, thing, "the very list that was handed in was told")
        return answer

    def told_word(self, deed, *given):
        word = self.told(deed, *given)
        self.assertIs(type(word), list)
        self.assertTrue(all(type(k) is int for k in word))
        return word

    def refused(self, refusal, deed, *given):
        """Sure that a deed is refused with just this class, and changes nothing."""
        kept = copy.deepcopy(given)
        try:
            deed(*given)
        except Exception as error:
            self.assert_refusal(error, refusal)
        else:
            self.fail(f"not refused with {refusal.__name__}")
        self.assertTrue(given == kept, "what was handed in was changed")

    def assert_refusal(self, error, refusal):
        self.assertIsInstance(error, refusal)
        self.assertIsInstance(error, errors.BraidError)
        self.assertIsInstance(error, ValueError)
        self.assertEqual([each for each in REFUSALS if isinstance(error, each)], [refusal])
