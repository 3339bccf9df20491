"""Point 84: braidcomb/likeness.py."""

import unittest

from braidcomb.counts import profile
from braidcomb.errors import TooMany
from braidcomb.forms import form, form_word, same
from braidcomb.likeness import alike
from braidcomb.summits import summits
from braidcomb.words import checked, flipped, mirrored, turned, upturned
from tests.hanging import hanging
from tests.samples import VAST, BraidCase, Dice, all_words, sample_words, thrown_word, walk
from tests.turning import turning

MOST_HERE = 4
MOST_CROSSINGS = 12
LONGEST_T = 1900
# Words of one profile that are not alike; the numbers of tests/turning.py tell the first ones apart.
NOT_ALIKE = (
    (3, [-2], [-2, -2, 1, -2, 1]),
    (3, [1], [1, 1, -2, 1, -2]),
    (4, [-3, -2], [-3, -3, -3, 2]),
    (4, [1, 2], [1, 1, 1, -2]),
)
# These are the other one read from the bottom up, which no number of turning tells apart.
NOT_ALIKE_TO_UPTURNED = (
    (3, [2, 2, 2, 2, -1, 2, 2, -1, 2, -1]),
    (3, [2, -1, -1, 2, 2, 2, 2, -1, 2, 2, -1, 2]),
    (4, [-3, 2, 2, 2, -3, -1, -3, 2]),
    (4, [2, -1, 2, 2, 2, -3, 2, 2, -3, -1]),
)


def words_here(lengths):
    return [(n, word) for n, word in sample_words(lengths) if n <= MOST_HERE]


def rotations(word):
    return [word[place:] + word[:place] for place in range(len(word))]


def woven(length, seed):
    """A word of three strings that has 2 and -1 alone, and both of them."""
    dice = Dice(seed)
    return [2, -1] + [(2, -1)[dice.below(2)] for _ in range(length - 2)]


class LikeCase(BraidCase):
    def told_answer(self, n, one, other, *most):
        told = self.told(alike, n, one, other, *most)
        self.assertIs(type(told), tuple)
        self.assertIn(told[0], ("counts", "alike", "forms"))
        self.assertEqual(len(told), 2 if told[0] == "alike" else 1)
        if told[0] == "alike":
            t = told[1]
            self.assertIs(type(t), list)
            self.assertIs(checked(n, t), True)
            self.assertEqual(hanging(n, turned(t) + one + t), hanging(n, other))
            if not most or most[0] <= 100:
                self.assertLessEqual(len(t), LONGEST_T)
        return told

    def assert_alike(self, n, one, other, *most):
        self.assertEqual(self.told_answer(n, one, other, *most)[0], "alike")
        self.assertEqual(self.told_answer(n, other, one, *most)[0], "alike")


class Alike(LikeCase):
    def test_empty_words(self):
        for n in range(1, MOST_HERE + 1):
            self.assert_alike(n, [], [])

    def test_a_word_with_itself(self):
        for n, word in words_here((0, 1, 2, 3, 6, 9, 12)):
            self.assert_alike(n, word, word, 1000)
            self.assert_alike(n, word, list(word), 1000)

    def test_words_that_are_the_same(self):
        for n, word in words_here((0, 1, 3, 6)):
            for other in walk(n, word, 10, Dice(n)):
                if len(other) <= MOST_CROSSINGS:
                    self.assert_alike(n, word, other, 1000)

    def test_words_turned_by_drawn_words(self):
        for n in range(1, MOST_HERE + 1):
            for length in (0, 1, 2, 4, 6):
                for seed in range(8):
                    word = thrown_word(n, length, seed)
                    for t in (thrown_word(n, 1, seed), thrown_word(n, 3, seed), thrown_word(n, 3, seed + 50)):
                        self.assert_alike(n, word, turned(t) + word + t, 1000)

    def test_both_turned(self):
        for n in (2, 3, 4):
            for seed in range(20):
                word = thrown_word(n, 4, seed)
                one = thrown_word(n, 4, seed + 1)
                other = thrown_word(n, 4, seed + 2)
                self.assert_alike(n, turned(one) + word + one, turned(other) + word + other, 1000)

    def test_what_stands_ahead_put_behind(self):
        for n in (2, 3, 4):
            for seed in range(3):
                word = thrown_word(n, MOST_CROSSINGS, seed)
                for other in rotations(word):
                    self.assertEqual(self.told_answer(n, word, other, 1000)[0], "alike")

    def test_flipped_words(self):
        for n, word in words_here((1, 3, 6, 9, 12)):
            self.assert_alike(n, word, flipped(n, word), 1000)

    def test_t_is_short_where_most_is_a_hundred(self):
        for n in (3, 4):
            for seed in range(25):
                word = thrown_word(n, MOST_CROSSINGS, seed)
                if len(summits(n, word, 1000)) <= 100:
                    self.assert_alike(n, word, flipped(n, word[5:] + word[:5]), 100)


class NotAlike(LikeCase):
    def test_other_profiles(self):
        for n, one, other in (
            (2, [1], [-1]), (2, [1, 1], []), (3, [1], [1, 2]), (3, [1, 1, 2, 2], [1, 1, 1, 1]), (4, [1, 2], [1, 3]),
            (4, [1, 1], [2, 2, 2, 2]), (3, [], [1, -2]),
        ):
            self.assertEqual(self.told_answer(n, one, other), ("counts",))
            self.assertEqual(self.told_answer(n, other, one), ("counts",))

    def test_other_profiles_go_ahead_of_too_many(self):
        for most in (0, -1, -VAST):
            self.assertEqual(self.told_answer(3, [1], [1, 2], most), ("counts",))
            self.refused(TooMany, alike, 3, [1], [1], most)

    def test_one_profile_and_no_summit_form_in_common(self):
        for n, one, other in NOT_ALIKE:
            self.assertEqual(profile(n, one), profile(n, other))
            self.assertNotEqual(turning(n, one), turning(n, other))
            self.assertEqual(self.told_answer(n, one, other, 1000), ("forms",))
            self.assertEqual(self.told_answer(n, other, one, 1000), ("forms",))

    def test_upturned_words(self):
        for n, word in NOT_ALIKE_TO_UPTURNED:
            other = upturned(word)
            self.assertEqual(profile(n, word), profile(n, other))
            self.assertEqual(self.told_answer(n, word, other, 1000), ("forms",))
            self.assertEqual(self.told_answer(n, other, word, 1000), ("forms",))
            one = summits(n, word, 1000)
            self.assertEqual([each for each in summits(n, other, 1000) if each in one], [])

    def test_woven_words_of_three_strings(self):
        # It is known that two such words are alike just where one is the other with its begin put behind.
        seen = []
        for length in (4, 6, 8, 10, 12):
            for seed in range(12):
                one = woven(length, seed)
                for other in (woven(length, seed + 100), upturned(one), one[3:] + one[:3]):
                    told = self.told_answer(3, one, other, 1000)[0]
                    if profile(3, one) != profile(3, other):
                        self.assertEqual(told, "counts")
                    else:
                        self.assertEqual(told, "alike" if other in rotations(one) else "forms")
                    seen.append(told)
        self.assertEqual(set(seen), {"counts", "alike", "forms"})

    def test_every_two_short_words(self):
        for n, longest in ((1, 0), (2, 4), (3, 3), (4, 2)):
            words = all_words(n, longest)
            for one in words:
                for other in words[::1 if n < 3 else 5]:
                    told = self.told_answer(n, one, other)[0]
                    if profile(n, one) != profile(n, other):
                        self.assertEqual(told, "counts")
                    else:
                        self.assertEqual(told, "alike" if turning(n, one) == turning(n, other) else "forms")

    def test_thrown_words(self):
        for n in (2, 3, 4):
            for seed in range(20):
                one = thrown_word(n, 8, seed)
                for other in (thrown_word(n, 8, seed + 1), turned(one), upturned(one), mirrored(one)):
                    told = self.told_answer(n, one, other, 1000)[0]
                    self.assertEqual(told == "counts", profile(n, one) != profile(n, other))
                    common = summits(n, one, 1000) == summits(n, other, 1000)
                    self.assertEqual(told == "alike", common)
                    if turning(n, one) != turning(n, other):
                        self.assertNotEqual(told, "alike")


class Most(LikeCase):
    def test_most(self):
        for n, word in words_here((0, 1, 3, 6, 9)):
            many = len(summits(n, word, 1000))
            other = flipped(n, word)
            for most in (many, many + 1, 10 ** 30, VAST):
                self.assertEqual(self.told_answer(n, word, other, most)[0], "alike")
            for most in (many - 1, 0, -1, -10 ** 30, -VAST):
                self.refused(TooMany, alike, n, word, other, most)

    def test_the_first_word_is_counted(self):
        n, few, many = 4, [1, 2], [1, 1, 1, -2]
        self.assertEqual(profile(n, few), profile(n, many))
        least = len(summits(n, few, 1000))
        self.assertLess(least, len(summits(n, many, 1000)))
        self.assertEqual(self.told_answer(n, few, many, least), ("forms",))
        self.refused(TooMany, alike, n, many, few, least)

    def test_most_left_out(self):
        word = [2, -1, 2, 1, -1, -1]
        self.assertEqual(len(summits(4, word, 24)), 24)
        self.assertEqual(self.told_answer(4, word, flipped(4, word))[0], "alike")
        for word in ([-3, 2, 3, -1, 3, 3, -2, -2, -1], [-2, -2, -2, 1, -3, 1]):
            self.refused(TooMany, alike, 4, word, word)
            self.refused(TooMany, alike, 4, word, word, 24)
            self.assertEqual(self.told_answer(4, word, word, 28)[0], "alike")

    def test_words_with_many(self):
        word = [-2, -2, -2, -2, -2, 3, 1, 1, 1, 1, 1, 1]
        self.refused(TooMany, alike, 4, word, word, 395)
        told = self.told_answer(4, word, flipped(4, word[4:] + word[:4]), 396)
        self.assertEqual(told[0], "alike")
        self.assertIs(same(4, turned(told[1]) + word + told[1], flipped(4, word[4:] + word[:4])), True)

    def test_alike_to_each_summit_form(self):
        for n, word in ((3, [1, 1, -2]), (4, [1, 3, -2, -2])):
            for one in summits(n, word, 1000):
                self.assert_alike(n, word, form_word(n, one), 1000)
                self.assertEqual(form(n, form_word(n, one)), one)


if __name__ == "__main__":
    unittest.main()
