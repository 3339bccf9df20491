"""Words to test with, and a test case that knows what a refusal is."""

import copy
import itertools
import unittest

from braidcomb import errors
from braidcomb.moves import moved, moves_of

REFUSALS = (
    errors.NoWord, errors.BadText, errors.NoMove, errors.NoRow, errors.NoForm,
    errors.Unlike, errors.NoString, errors.BadPicture, errors.TooMany,
)
MOST_STRINGS = 7
LENGTHS = (0, 1, 2, 3, 4, 5, 9, 40, 333, 4000)
# More figures than Python turns into a text, so an error that tells them fails by itself.
VAST = 10 ** 5000


class Dice:
    """Numbers that look thrown and are the same on every Python."""

    def __init__(self, seed):
        self.state = seed * 2 + 1

    def below(self, many):
        self.state = (self.state * 6364136223846793005 + 1442695040888963407) % 2 ** 64
        return (self.state >> 33) % many


def crossings(n):
    return list(range(-(n - 1), 0)) + list(range(1, n))


def thrown_word(n, length, seed=0):
    """A word of n strings; one string has the empty word alone."""
    if n == 1:
        return []
    dice = Dice(1000 * n + length + 7919 * seed)
    choice = crossings(n)
    return [choice[dice.below(len(choice))] for _ in range(length)]


def sample_words(lengths=LENGTHS):
    """Tuples of n and a word, for each n from 1 to 7."""
    return [(n, thrown_word(n, length)) for n in range(1, MOST_STRINGS + 1) for length in lengths]


def all_words(n, longest):
    """All words of n strings with at most so many crossings."""
    level = [[]]
    words = [[]]
    for _ in range(longest):
        level = [word + [k] for word in level for k in crossings(n)]
        words.extend(level)
    return words


def above_words(n, length):
    """All words of n strings with just so many crossings, all above nought."""
    return [list(word) for word in itertools.product(range(1, n), repeat=length)]


def all_rows(n):
    return [list(row) for row in itertools.permutations(range(n))]


def thrown_row(n, dice):
    left = list(range(n))
    return [left.pop(dice.below(len(left))) for _ in range(n)]


def thrown_rows(n, many, seed=0):
    dice = Dice(77 * n + 31 * seed)
    return [thrown_row(n, dice) for _ in range(many)]


def every_move(n, word):
    """All exchanges that can be done in a word, those that put in among them."""
    return moves_of(word) + [("in", p, k) for p in range(len(word) + 1) for k in crossings(n)]


def turn_moves(p, a, b):
    """Exchanges that put in a, b, a, -a, -b, -a ahead of crossing p and make it b, a, b, -a, -b, -a."""
    return [("in", p, a), ("in", p + 1, b), ("in", p + 2, a), ("near", p)]


def thrown_moves(n, word, dice):
    """A few exchanges that can be done one behind the other; none where there is one string."""
    found = moves_of(word)
    if found and dice.below(4) > 0:
        return [found[dice.below(len(found))]]
    p = dice.below(len(word) + 1)
    k = crossings(n)[dice.below(2 * n - 2)]
    if n > 2 and dice.below(2) == 0:
        other = k + 1 if abs(k + 1) in range(1, n) else k - 1
        return turn_moves(p, k, other)
    return [("in", p, k)]


def walk(n, word, many, dice):
    """The words that come of exchanges, one behind the other, so many times."""
    found = [list(word)]
    if n == 1:
        return found
    for _ in range(many):
        for move in thrown_moves(n, found[-1], dice):
            found.append(moved(n, found[-1], move))
    return found


def is_move(move):
    """Whether a thing is a tuple of one of the four shapes."""
    if type(move) is not tuple or move[0] not in ("out", "in", "far", "near"):
        return False
    numbers = move[1:]
    return len(numbers) == (2 if move[0] == "in" else 1) and all(type(each) is int for each in numbers)


def walked(n, word, moves):
    """The word to which exchanges lead, done one behind the other."""
    now = list(word)
    for move in moves:
        now = moved(n, now, move)
    return now


def lists_within(thing):
    """All lists in a thing that was handed in or told, itself among them."""
    found = [thing] if isinstance(thing, list) else []
    if isinstance(thing, (list, tuple)):
        for part in thing:
            found.extend(lists_within(part))
    return found


class BraidCase(unittest.TestCase):
    """A test case that looks at kinds, at refusals and at what was handed in."""

    def told(self, deed, *given):
        """What a deed tells, once it is sure that nothing handed in was changed or told again."""
        kept = copy.deepcopy(given)
        answer = deed(*given)
        self.assertEqual(given, kept, "what was handed in was changed")
        told_lists = [id(each) for each in lists_within(answer)]
        given_lists = {id(each) for each in lists_within(given)}
        self.assertEqual(len(set(told_lists)), len(told_lists), "one list was told at two places")
        self.assertFalse(given_lists & set(told_lists), "a very list that was handed in was told")
        return answer

    def told_word(self, deed, *given):
        word = self.told(deed, *given)
        self.assertIs(type(word), list)
        self.assertTrue(all(type(k) is int for k in word))
        return word

    def refused(self, refusal, deed, *given):
        """Sure that a deed is refused with just this class, and changes nothing."""
        kept = copy.deepcopy(given)
        try:
            deed(*given)
        except Exception as error:
            self.assert_refusal(error, refusal)
        else:
            self.fail(f"not refused with {refusal.__name__}")
        self.assertTrue(given == kept, "what was handed in was changed")

    def assert_refusal(self, error, refusal):
        self.assertIsInstance(error, refusal)
        self.assertIsInstance(error, errors.BraidError)
        self.assertIsInstance(error, ValueError)
        self.assertEqual([each for each in REFUSALS if isinstance(error, each)], [refusal])
