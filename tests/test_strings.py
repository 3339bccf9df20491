"""Points 61 to 63: braidcomb/strings.py."""

import unittest

from braidcomb.errors import NoString
from braidcomb.forms import same
from braidcomb.moves import moved
from braidcomb.strings import doubled, without
from braidcomb.words import checked, mirrored, order_of, turned
from tests.hanging import hanging
from tests.samples import (
    MOST_STRINGS, VAST, BraidCase, Dice, all_words, crossings, every_move, sample_words, walk,
)

SHORT = (0, 1, 2, 3, 5, 9, 40)
OUT_OF_RANGE = (-1, -2, -7, -10 ** 30, 10 ** 30, VAST, -VAST)


def meetings(n, word):
    """Each crossing as a tuple of the string on its left, the one on its right, and its sign."""
    hung = list(range(n))
    found = []
    for k in word:
        right = abs(k)
        left = right - 1
        found.append((hung[left], hung[right], 1 if k > 0 else -1))
        hung[left], hung[right] = hung[right], hung[left]
    return found


def word_of_meetings(names, found):
    """The word in which strings, hung up in the order of their names, meet in this way."""
    hung = list(names)
    word = []
    for left, right, sign in found:
        place = hung.index(left)
        assert hung.index(right) == place + 1, "strings that meet hang side by side"
        hung[place], hung[place + 1] = right, left
        word.append(sign * (place + 1))
    return word


def without_by_meetings(n, word, s):
    left = [each for each in meetings(n, word) if s not in each[:2]]
    return word_of_meetings([string for string in range(n) if string != s], left)


def meetings_of_a_ribbon(meeting, s):
    """What a meeting becomes where string s is two strings: the one nearer to the other string meets it first."""
    left, right, sign = meeting
    if left == s:
        return [("right", right, sign), ("left", right, sign)]
    if right == s:
        return [(left, "left", sign), (left, "right", sign)]
    return [meeting]


def doubled_by_meetings(n, word, s):
    names = []
    for string in range(n):
        names.extend(["left", "right"] if string == s else [string])
    found = []
    for meeting in meetings(n, word):
        found.extend(meetings_of_a_ribbon(meeting, s))
    return word_of_meetings(names, found)


class Without(BraidCase):
    def test_each_sign_and_side(self):
        for sign in (1, -1):
            self.assertEqual(without(4, [2 * sign], 0), [sign])
            self.assertEqual(without(4, [2 * sign], 1), [])
            self.assertEqual(without(4, [2 * sign], 2), [])
            self.assertEqual(without(4, [2 * sign], 3), [2 * sign])

    def test_as_written(self):
        self.assertEqual(without(3, [1, -2, 1], 0), [1])
        self.assertEqual(without(3, [1, -2, 1], 1), [-1])
        self.assertEqual(without(3, [1, -2, 1], 2), [1])
        self.assertEqual(without(4, [1, 2, 3, -1, -2, 1], 0), [-1, -2, 1])
        self.assertEqual(without(4, [3, 2, 1, 3, 3, -2], 3), [2, 2, -1])
        self.assertEqual(without(2, [1, 1, -1], 0), [])
        self.assertEqual(without(2, [1, 1, -1], 1), [])

    def test_against_strings_followed_one_by_one(self):
        for n, word in sample_words(SHORT + (333, 4000)):
            if n == 1:
                continue
            for s in range(n):
                told = self.told_word(without, n, word, s)
                self.assertEqual(told, without_by_meetings(n, word, s))
                self.assertIs(checked(n - 1, told), True)

    def test_all_short_words(self):
        for n, longest in ((2, 5), (3, 4), (4, 3), (5, 2), (6, 2), (7, 2)):
            for word in all_words(n, longest):
                for s in range(n):
                    self.assertEqual(without(n, word, s), without_by_meetings(n, word, s))

    def test_the_others_keep_their_order(self):
        for n, word in sample_words((1, 5, 40, 4000)):
            for s in range(n if n > 1 else 0):
                left = [string for string in order_of(n, word) if string != s]
                self.assertEqual(
                    order_of(n - 1, without(n, word, s)), [string - 1 if string > s else string for string in left],
                )

    def test_empty_word(self):
        for n in range(2, MOST_STRINGS + 1):
            for s in range(n):
                self.assertEqual(self.told_word(without, n, [], s), [])

    def test_refused(self):
        for n, word in sample_words((0, 1, 9, 4000)):
            for s in OUT_OF_RANGE + (n, n + 1):
                self.refused(NoString, without, n, word, s)

    def test_the_only_string(self):
        for s in OUT_OF_RANGE + (0, 1, 2):
            self.refused(NoString, without, 1, [], s)

    def test_words_that_are_the_same(self):
        for n, word in sample_words((0, 1, 2, 5, 9, 40)):
            for s in range(n if n > 1 else 0):
                hung = hanging(n - 1, without(n, word, s))
                for other in walk(n, word, 25, Dice(n + s)):
                    left = without(n, other, s)
                    self.assertEqual(hanging(n - 1, left), hung)
                self.assertIs(same(n - 1, left, without(n, word, s)), True)

    def test_each_exchange(self):
        for n, word in sample_words((3, 9)):
            for move in every_move(n, word):
                other = moved(n, word, move)
                for s in range(n):
                    self.assertEqual(hanging(n - 1, without(n, word, s)), hanging(n - 1, without(n, other, s)))

    def test_signs_and_ends(self):
        for n, word in sample_words((5, 40)):
            for s in range(n if n > 1 else 0):
                self.assertEqual(without(n, mirrored(word), s), mirrored(without(n, word, s)))
                bottom = order_of(n, word).index(s)
                self.assertEqual(without(n, turned(word), bottom), turned(without(n, word, s)))


class Doubled(BraidCase):
    def test_each_sign_and_side(self):
        for sign in (1, -1):
            self.assertEqual(doubled(4, [2 * sign], 0), [3 * sign])
            self.assertEqual(doubled(4, [2 * sign], 1), [3 * sign, 2 * sign])
            self.assertEqual(doubled(4, [2 * sign], 2), [2 * sign, 3 * sign])
            self.assertEqual(doubled(4, [2 * sign], 3), [2 * sign])

    def test_as_written(self):
        self.assertEqual(doubled(1, [], 0), [])
        self.assertEqual(doubled(2, [1, -1], 0), [2, 1, -1, -2])
        self.assertEqual(doubled(2, [1, -1], 1), [1, 2, -2, -1])
        self.assertEqual(doubled(3, [1, -2, 1], 0), [2, 1, -3, -2, 1])
        self.assertEqual(doubled(3, [1, -2, 1], 1), [1, 2, -3, 2, 1])
        self.assertEqual(doubled(3, [1, -2, 1], 2), [1, -2, -3, 1, 2])

    def test_against_strings_followed_one_by_one(self):
        for n, word in sample_words(SHORT + (333, 4000)):
            if n == MOST_STRINGS:
                continue
            for s in range(n):
                told = self.told_word(doubled, n, word, s)
                self.assertEqual(told, doubled_by_meetings(n, word, s))
                self.assertIs(checked(n + 1, told), True)

    def test_all_short_words(self):
        for n, longest in ((1, 0), (2, 5), (3, 4), (4, 3), (5, 2), (6, 2)):
            for word in all_words(n, longest):
                for s in range(n):
                    self.assertEqual(doubled(n, word, s), doubled_by_meetings(n, word, s))

    def test_the_two_do_not_cross_one_another(self):
        for n, word in sample_words(SHORT + (333,)):
            for s in range(n if n < MOST_STRINGS else 0):
                met = [each[:2] for each in meetings(n + 1, doubled(n, word, s))]
                self.assertNotIn((s, s + 1), met)
                self.assertNotIn((s + 1, s), met)

    def test_one_of_the_two_taken_out_leaves_the_very_word(self):
        for n, word in sample_words(SHORT + (333, 4000)):
            for s in range(n if n < MOST_STRINGS else 0):
                ribbon = doubled(n, word, s)
                self.assertEqual(without(n + 1, ribbon, s), word)
                self.assertEqual(without(n + 1, ribbon, s + 1), word)

    def test_both_taken_out_leave_the_others(self):
        for n, word in sample_words((1, 9, 40)):
            for s in range(n if n in range(2, MOST_STRINGS) else 0):
                self.assertEqual(without(n, without(n + 1, doubled(n, word, s), s), s), without(n, word, s))

    def test_empty_word(self):
        for n in range(1, MOST_STRINGS):
            for s in range(n):
                self.assertEqual(self.told_word(doubled, n, [], s), [])

    def test_refused(self):
        for n, word in sample_words((0, 1, 9, 4000)):
            for s in OUT_OF_RANGE + (n, n + 1):
                self.refused(NoString, doubled, n, word, s)

    def test_seven_strings(self):
        for s in OUT_OF_RANGE + tuple(range(9)):
            self.refused(NoString, doubled, MOST_STRINGS, [], s)
            self.refused(NoString, doubled, MOST_STRINGS, [1, -6], s)

    def test_words_that_are_the_same(self):
        for n, word in sample_words((0, 1, 2, 5, 9, 40)):
            for s in range(n if n < MOST_STRINGS else 0):
                hung = hanging(n + 1, doubled(n, word, s))
                for other in walk(n, word, 25, Dice(n + s)):
                    ribbon = doubled(n, other, s)
                    self.assertEqual(hanging(n + 1, ribbon), hung)
                self.assertIs(same(n + 1, ribbon, doubled(n, word, s)), True)

    def test_each_exchange(self):
        for n, word in sample_words((3, 9)):
            for move in every_move(n, word):
                other = moved(n, word, move)
                for s in range(n if n < MOST_STRINGS else 0):
                    self.assertEqual(hanging(n + 1, doubled(n, word, s)), hanging(n + 1, doubled(n, other, s)))

    def test_a_crossing_more_makes_another_one(self):
        for n, word in sample_words((0, 5, 40)):
            for k in crossings(n if n < MOST_STRINGS else 1):
                for s in range(n):
                    self.assertIs(same(n + 1, doubled(n, word, s), doubled(n, word + [k], s)), False)


if __name__ == "__main__":
    unittest.main()
