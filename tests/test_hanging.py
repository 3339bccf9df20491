"""The numbers of tests/hanging.py, by which forms are tested, know exchanges and know words apart."""

import unittest

from braidcomb.moves import moved
from tests.hanging import hanging
from tests.samples import MOST_STRINGS, Dice, all_words, crossings, every_move, sample_words, thrown_word, walk


def freed(letters):
    left = []
    for letter in letters:
        if left and left[-1] == -letter:
            left.pop()
        else:
            left.append(letter)
    return left


def loops(n, word):
    """What becomes of the loops around each place, as words of loops: another telling of what hangs there."""
    images = [[place] for place in range(1, n + 1)]
    for k in reversed(word):
        p = abs(k)
        if k > 0:
            swap = {p: [p, p + 1, -p], p + 1: [p]}
        else:
            swap = {p: [p + 1], p + 1: [-(p + 1), p, p + 1]}
        images = [freed(replaced(image, swap)) for image in images]
    return images


def replaced(image, swap):
    found = []
    for letter in image:
        piece = swap.get(abs(letter), [abs(letter)])
        found.extend(piece if letter > 0 else [-each for each in reversed(piece)])
    return found


class Hanging(unittest.TestCase):
    def test_no_exchange_changes_it(self):
        for n in range(1, MOST_STRINGS + 1):
            for word in [[]] + [[k] for k in crossings(n)] + [thrown_word(n, 12, seed) for seed in range(5)]:
                for move in every_move(n, word):
                    self.assertEqual(hanging(n, moved(n, word, move)), hanging(n, word))

    def test_walks(self):
        for n, word in sample_words((0, 3, 40, 333)):
            for each in walk(n, word, 60, Dice(n)):
                self.assertEqual(hanging(n, each), hanging(n, word))

    def test_it_knows_short_words_apart_as_loops_do(self):
        for n, longest in ((2, 6), (3, 6), (4, 4), (5, 3)):
            by_loops = {}
            by_numbers = {}
            for word in all_words(n, longest):
                told = str(loops(n, word))
                numbers = str(hanging(n, word))
                self.assertEqual(by_loops.setdefault(told, numbers), numbers)
                self.assertEqual(by_numbers.setdefault(numbers, told), told)


if __name__ == "__main__":
    unittest.main()
