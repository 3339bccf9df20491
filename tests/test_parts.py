"""Point 45: braidcomb/parts.py."""

import unittest

from braidcomb.forms import form, form_word, same
from braidcomb.parts import parted
from braidcomb.rows import half, row_word, starts
from braidcomb.words import mirrored, turned, upturned
from tests.hanging import hanging
from tests.samples import (
    MOST_STRINGS, BraidCase, Dice, above_words, all_words, crossings, sample_words, thrown_word, walk,
)


def firsts(n, word):
    """The crossings that can stand first in a word of crossings above nought, by trying each one."""
    return [k for k in range(1, n) if form(n, [-k] + word)[0] >= 0]


def reached_by_fewer(n, most):
    """What hangs there for all two words above nought, by the least number of crossings they have together."""
    least = {}
    for total in range(most + 1):
        for many in range(total + 1):
            for x in above_words(n, many):
                for y in above_words(n, total - many):
                    least.setdefault(str(hanging(n, turned(x) + y)), total)
    return least


class Parted(BraidCase):
    def told_parts(self, n, word):
        told = self.told(parted, n, word)
        self.assertIs(type(told), tuple)
        self.assertEqual([type(part) for part in told], [list, list])
        for part in told:
            self.assertTrue(all(type(k) is int and k in range(1, n) for k in part))
        return told

    def assert_parted(self, n, word):
        x, y = self.told_parts(n, word)
        self.assertEqual(hanging(n, turned(x) + y), hanging(n, word))
        for part in (x, y):
            self.assertEqual(form_word(n, form(n, part)), part)
        return (x, y)

    def test_as_written(self):
        self.assertEqual(parted(1, []), ([], []))
        self.assertEqual(parted(2, [1, 1]), ([], [1, 1]))
        self.assertEqual(parted(2, [-1, -1]), ([1, 1], []))
        self.assertEqual(parted(3, [2, 1, 2]), ([], [1, 2, 1]))
        self.assertEqual(parted(3, [-1, 2]), ([1], [2]))
        self.assertEqual(parted(3, [1, -2]), ([1, 2], [2, 1]))
        self.assertEqual(parted(3, [2, -1]), ([2, 1], [1, 2]))
        self.assertEqual(parted(4, [1, 2, -3]), ([1, 2, 3], [2, 1, 3, 2]))
        self.assertEqual(parted(4, [3, -1]), ([1], [3]))
        self.assertEqual(parted(4, [1, -3]), ([3], [1]))

    def test_empty_word(self):
        for n in range(1, MOST_STRINGS + 1):
            self.assertEqual(self.told_parts(n, []), ([], []))

    def test_each_crossing(self):
        for n in range(2, MOST_STRINGS + 1):
            for k in range(1, n):
                self.assertEqual(parted(n, [k]), ([], [k]))
                self.assertEqual(parted(n, [-k]), ([k], []))

    def test_half_turns(self):
        for n in range(2, MOST_STRINGS + 1):
            turn = row_word(half(n))
            for many in (1, 2, 3):
                self.assertEqual(parted(n, turn * many), ([], turn * many))
                self.assertEqual(parted(n, turned(turn) * many), (turn * many, []))

    def test_sample_words(self):
        for n, word in sample_words((0, 1, 2, 3, 4, 5, 9, 40, 333)):
            x, y = self.assert_parted(n, word)
            self.assertIs(same(n, turned(x) + y, word), True)

    def test_the_longest_words(self):
        for n, word in sample_words((4000,)):
            self.assert_parted(n, word)

    def test_words_of_one_sign(self):
        for n in range(2, MOST_STRINGS + 1):
            for length in (1, 2, 9, 40, 4000):
                word = [abs(k) for k in thrown_word(n, length)]
                self.assertEqual(self.assert_parted(n, word), ([], form_word(n, form(n, word))))
                x = form_word(n, form(n, upturned(word)))
                self.assertEqual(self.assert_parted(n, mirrored(word)), (x, []))

    def test_no_crossing_can_stand_first_in_both(self):
        for n, word in sample_words((1, 2, 3, 4, 5, 9, 40)):
            x, y = parted(n, word)
            self.assertEqual([k for k in firsts(n, x) if k in firsts(n, y)], [])
        for n, longest in ((2, 4), (3, 5), (4, 4), (5, 3)):
            for word in all_words(n, longest):
                x, y = parted(n, word)
                self.assertEqual([k for k in firsts(n, x) if k in firsts(n, y)], [], word)

    def test_no_crossing_can_stand_first_in_both_of_long_words(self):
        for n, word in sample_words((333, 4000)):
            first_rows = []
            for part in parted(n, word):
                halves, rows = form(n, part)
                first_rows.append(half(n) if halves > 0 else rows[0] if rows else list(range(n)))
            self.assertEqual(set(starts(first_rows[0])) & set(starts(first_rows[1])), set())

    def test_none_with_fewer_crossings(self):
        for n, most, longest in ((2, 6, 6), (3, 8, 6), (4, 6, 4), (5, 4, 3)):
            least = reached_by_fewer(n, most)
            asked = 0
            for word in all_words(n, longest):
                x, y = parted(n, word)
                total = len(x) + len(y)
                fewest = least.get(str(hanging(n, word)))
                if total <= most:
                    self.assertEqual(fewest, total, word)
                    asked += 1
                else:
                    self.assertIsNone(fewest, word)
            self.assertGreater(asked, longest)

    def test_words_that_are_the_same_have_one_tuple(self):
        for n, word in sample_words((0, 1, 2, 5, 9, 40)):
            told = parted(n, word)
            for each in walk(n, word, 30, Dice(n + len(word))):
                self.assertEqual(parted(n, each), told)

    def test_a_crossing_more_makes_another_tuple(self):
        for n, word in sample_words((0, 1, 5, 40)):
            for k in crossings(n):
                self.assertNotEqual(parted(n, word + [k]), parted(n, word))

    def test_turned_words(self):
        for n, word in sample_words((2, 5, 40)):
            self.assert_parted(n, turned(word))
            self.assertEqual(parted(n, turned(word) + word), ([], []))


if __name__ == "__main__":
    unittest.main()
