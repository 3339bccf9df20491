"""Points 11 to 14: braidcomb/words.py."""

import unittest

from braidcomb.errors import NoWord
from braidcomb.words import checked, flipped, mirrored, order_of, trimmed, turned, upturned
from tests.samples import MOST_STRINGS, VAST, BraidCase, all_words, crossings, sample_words, thrown_word


class Checked(BraidCase):
    def test_words_of_each_n_are_checked(self):
        for n, word in sample_words():
            self.assertIs(self.told(checked, n, word), True)

    def test_each_crossing_of_each_n(self):
        for n in range(1, MOST_STRINGS + 1):
            self.assertIs(checked(n, crossings(n)), True)
            for k in crossings(n):
                self.assertIs(checked(n, [k]), True)

    def test_one_string_has_the_empty_word_alone(self):
        self.assertIs(checked(1, []), True)
        for k in (1, -1, 0, 2):
            self.refused(NoWord, checked, 1, [k])

    def test_length_alone_is_not_refused(self):
        self.assertIs(checked(7, thrown_word(7, 4100)), True)

    def test_n_out_of_range(self):
        for n in (0, -1, -2, -7, 8, 9, 10, 100, -100, VAST, -VAST):
            for word in ([], [1], [-1], [1, -1]):
                self.refused(NoWord, checked, n, word)

    def test_entry_out_of_range_at_any_place(self):
        for n in range(1, MOST_STRINGS + 1):
            wrong = (0, n, -n, n + 1, -n - 1, n + 7, -n - 7, 10 ** 9, -10 ** 9, VAST, -VAST)
            for length in (0, 1, 2, 6, 4000):
                word = thrown_word(n, length)
                for place in sorted({0, len(word) // 2, len(word)}):
                    for k in wrong:
                        self.refused(NoWord, checked, n, word[:place] + [k] + word[place:])


class TurnedAndItsKin(BraidCase):
    def test_as_written(self):
        word = [1, -2, 3, 3, -1]
        self.assertEqual(turned(word), [1, -3, -3, 2, -1])
        self.assertEqual(mirrored(word), [-1, 2, -3, -3, 1])
        self.assertEqual(upturned(word), [-1, 3, 3, -2, 1])
        self.assertEqual(flipped(4, word), [3, -2, 1, 1, -3])
        self.assertEqual(flipped(7, word), [6, -5, 4, 4, -6])

    def test_flipped_at_each_crossing(self):
        self.assertEqual(flipped(2, [1, -1]), [1, -1])
        self.assertEqual(flipped(3, [1, 2, -1, -2]), [2, 1, -2, -1])
        self.assertEqual(flipped(5, [1, 2, 3, 4]), [4, 3, 2, 1])
        self.assertEqual(flipped(5, [-1, -2, -3, -4]), [-4, -3, -2, -1])

    def test_empty_word(self):
        for deed in (turned, mirrored, upturned, trimmed):
            self.assertEqual(self.told_word(deed, []), [])
        for n in range(1, MOST_STRINGS + 1):
            self.assertEqual(self.told_word(flipped, n, []), [])

    def test_place_by_place(self):
        for n, word in sample_words():
            last = len(word) - 1
            told_turned = self.told_word(turned, word)
            told_mirrored = self.told_word(mirrored, word)
            told_upturned = self.told_word(upturned, word)
            told_flipped = self.told_word(flipped, n, word)
            for told in (told_turned, told_mirrored, told_upturned, told_flipped):
                self.assertEqual(len(told), len(word))
            for place, k in enumerate(word):
                sign = 1 if k > 0 else -1
                self.assertEqual(told_turned[last - place], 0 - k)
                self.assertEqual(told_mirrored[place], 0 - k)
                self.assertEqual(told_upturned[last - place], k)
                self.assertEqual(told_flipped[place], sign * (n - sign * k))

    def test_twice_leads_back(self):
        for n, word in sample_words():
            self.assertEqual(turned(turned(word)), word)
            self.assertEqual(mirrored(mirrored(word)), word)
            self.assertEqual(upturned(upturned(word)), word)
            self.assertEqual(flipped(n, flipped(n, word)), word)

    def test_turned_is_mirrored_and_upturned(self):
        for _, word in sample_words():
            self.assertEqual(turned(word), mirrored(upturned(word)))

    def test_flipped_words_are_words(self):
        for n, word in sample_words():
            self.assertIs(checked(n, flipped(n, word)), True)


def pair_places(word):
    return [p for p in range(len(word) - 1) if word[p] + word[p + 1] == 0]


def trimmed_from_the_end(word):
    """Takes out the last pair first, one at a time."""
    places = pair_places(word)
    while places:
        word = word[:places[-1]] + word[places[-1] + 2:]
        places = pair_places(word)
    return word


class Trimmed(BraidCase):
    def test_pairs_in_either_order(self):
        for k in range(1, MOST_STRINGS):
            self.assertEqual(trimmed([k, -k]), [])
            self.assertEqual(trimmed([-k, k]), [])
            self.assertEqual(trimmed([k, -k, k]), [k])
            self.assertEqual(trimmed([-k, k, -k]), [-k])

    def test_pairs_at_begin_middle_and_end(self):
        self.assertEqual(trimmed([2, -2, 1, 3]), [1, 3])
        self.assertEqual(trimmed([1, -2, 2, 3]), [1, 3])
        self.assertEqual(trimmed([1, 3, 2, -2]), [1, 3])

    def test_pairs_that_come_together_later(self):
        self.assertEqual(trimmed([1, 2, -2, -1]), [])
        self.assertEqual(trimmed([-1, 2, -2, 1, 3]), [3])
        self.assertEqual(trimmed([3, 1, 2, -2, -1, 3]), [3, 3])
        self.assertEqual(trimmed([1, -2, 3, -3, 2, -1, 1]), [1])
        self.assertEqual(trimmed([1, 2, -2, 2, -2, -1, 4]), [4])

    def test_others_stay(self):
        for word in ([1], [1, 1], [-1, -1], [1, -2], [1, 2, -1], [1, 3, -1], [1, 2, 1, -2, -1, -2]):
            self.assertEqual(self.told_word(trimmed, word), word)

    def test_all_short_words(self):
        for n, longest in ((2, 8), (3, 5), (4, 4)):
            for word in all_words(n, longest):
                self.assertEqual(self.told_word(trimmed, word), trimmed_from_the_end(word))

    def test_sample_words(self):
        for _, word in sample_words((0, 1, 2, 3, 9, 40, 333)):
            self.assertEqual(trimmed(word), trimmed_from_the_end(word))

    def test_nothing_more_to_take_out_of_long_words(self):
        for _, word in sample_words((4000,)):
            left = self.told_word(trimmed, word)
            self.assertEqual(pair_places(left), [])
            self.assertEqual(trimmed(left), left)
            self.assertEqual((len(word) - len(left)) % 2, 0)

    def test_a_word_and_its_turned_one_behind_it(self):
        for n, word in sample_words((0, 1, 2, 9, 333, 2000)):
            self.assertEqual(trimmed(word + turned(word)), [])
            self.assertEqual(trimmed(turned(word) + word), [])

    def test_deep_within_a_long_word(self):
        self.assertEqual(trimmed([1, 2] * 1000 + [-2, -1] * 1000), [])
        self.assertEqual(trimmed([3] + [1, -2] * 999 + [2, -1] * 999 + [3]), [3, 3])


def order_by_following(n, word):
    """Follows each string by itself from the top down."""
    order = [None] * n
    for name in range(n):
        place = name
        for k in word:
            if place == abs(k) - 1:
                place = place + 1
            elif place == abs(k):
                place = place - 1
        order[place] = name
    return order


class OrderOf(BraidCase):
    def test_empty_word(self):
        for n in range(1, MOST_STRINGS + 1):
            self.assertEqual(self.told_word(order_of, n, []), list(range(n)))

    def test_each_crossing_of_either_sign(self):
        for n in range(2, MOST_STRINGS + 1):
            for k in range(1, n):
                order = list(range(k - 1)) + [k, k - 1] + list(range(k + 1, n))
                self.assertEqual(order_of(n, [k]), order)
                self.assertEqual(order_of(n, [-k]), order)

    def test_as_written(self):
        self.assertEqual(order_of(3, [1, 2]), [1, 2, 0])
        self.assertEqual(order_of(3, [2, 1]), [2, 0, 1])
        self.assertEqual(order_of(4, [1, -2, 3]), [1, 2, 3, 0])
        self.assertEqual(order_of(4, [-3, 2, 1, 3]), [3, 0, 2, 1])

    def test_against_strings_followed_one_by_one(self):
        for n, word in sample_words():
            self.assertEqual(self.told_word(order_of, n, word), order_by_following(n, word))

    def test_all_short_words(self):
        for n, longest in ((2, 4), (3, 4), (4, 3), (5, 2)):
            for word in all_words(n, longest):
                self.assertEqual(order_of(n, word), order_by_following(n, word))


if __name__ == "__main__":
    unittest.main()
