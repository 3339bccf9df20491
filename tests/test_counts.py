"""Points 23 to 27: braidcomb/counts.py."""

import unittest

from braidcomb.counts import linked, profile, rings, sum_of, table
from braidcomb.moves import moved
from braidcomb.words import flipped, mirrored, order_of, turned
from tests.samples import (
    MOST_STRINGS, BraidCase, Dice, all_words, crossings, every_move, sample_words, thrown_word, walk,
)

BUT_THE_LONGEST = (0, 1, 2, 3, 4, 5, 9, 40, 333)


def place_by_place(word, string):
    """The places of one string, followed by itself: ahead of each crossing, and at the bottom."""
    places = [string]
    for k in word:
        place = places[-1]
        if place == abs(k) - 1:
            places.append(place + 1)
        elif place == abs(k):
            places.append(place - 1)
        else:
            places.append(place)
    return places


def table_by_following(n, word):
    followed = [place_by_place(word, string) for string in range(n)]
    return [[sum_by_following(word, followed[a], followed[b]) for b in range(n)] for a in range(n)]


def sum_by_following(word, one, other):
    """Adds up the crossings in which the one string goes over the other."""
    total = 0
    for number, k in enumerate(word):
        left = abs(k) - 1
        if k > 0 and (one[number], other[number]) == (left, left + 1):
            total += 1
        if k < 0 and (one[number], other[number]) == (left + 1, left):
            total -= 1
    return total


def rings_by_following(n, word):
    behind = [place_by_place(word, string)[-1] for string in range(n)]
    found = []
    for string in range(n):
        ring = [string]
        while behind[ring[-1]] != string:
            ring.append(behind[ring[-1]])
        if min(ring) == string:
            found.append(ring)
    return found


def linked_by_following(n, word):
    sums = table_by_following(n, word)
    found = rings_by_following(n, word)
    return [[sum(sums[a][b] for a in x for b in y) for y in found] for x in found]


def profile_by_following(n, word):
    found = rings_by_following(n, word)
    sums = linked_by_following(n, word)
    told = []
    for x, ring in enumerate(found):
        others = [sums[x][y] for y in range(len(found)) if y != x]
        told.append((len(ring), sums[x][x], sorted(others)))
    return sorted(told)


def counts(n, word):
    """All that no exchange changes."""
    return (
        order_of(n, word), sum_of(word), table(n, word), rings(n, word), linked(n, word), profile(n, word),
    )


class CountCase(BraidCase):
    def told_lists(self, deed, *given):
        """What a deed tells, once it is sure that it is a list of lists of whole numbers."""
        told = self.told(deed, *given)
        self.assertIs(type(told), list)
        for each in told:
            self.assertIs(type(each), list)
            self.assertTrue(all(type(number) is int for number in each))
        return told


class SumOf(CountCase):
    def test_empty_word(self):
        self.assertEqual(sum_of([]), 0)

    def test_each_crossing(self):
        for k in range(1, MOST_STRINGS):
            self.assertEqual(sum_of([k]), 1)
            self.assertEqual(sum_of([-k]), -1)
            self.assertEqual(sum_of([k, k, -k]), 1)

    def test_as_written(self):
        self.assertEqual(sum_of([1, -2, 3]), 1)
        self.assertEqual(sum_of([-6, -6, -1]), -3)
        self.assertEqual(sum_of([6, 5, 6, 5]), 4)

    def test_sample_words(self):
        for _, word in sample_words():
            told = self.told(sum_of, word)
            self.assertIs(type(told), int)
            self.assertEqual(told, len([k for k in word if k > 0]) - len([k for k in word if k < 0]))

    def test_the_longest_words_of_one_sign(self):
        self.assertEqual(sum_of([6] * 4000), 4000)
        self.assertEqual(sum_of([-1] * 4000), -4000)


class Table(CountCase):
    def test_empty_word(self):
        for n in range(1, MOST_STRINGS + 1):
            self.assertEqual(self.told_lists(table, n, []), [[0] * n] * n)

    def test_each_crossing_of_either_sign(self):
        for n in range(2, MOST_STRINGS + 1):
            for k in range(1, n):
                over = [[0] * n for _ in range(n)]
                over[k - 1][k] = 1
                self.assertEqual(table(n, [k]), over)
                under = [[0] * n for _ in range(n)]
                under[k][k - 1] = -1
                self.assertEqual(table(n, [-k]), under)

    def test_as_written(self):
        self.assertEqual(table(2, [1, 1]), [[0, 1], [1, 0]])
        self.assertEqual(table(2, [-1, -1]), [[0, -1], [-1, 0]])
        self.assertEqual(table(2, [1, -1]), [[0, 0], [0, 0]])
        self.assertEqual(table(2, [1, 1, 1]), [[0, 2], [1, 0]])
        self.assertEqual(table(3, [1, 2]), [[0, 1, 1], [0, 0, 0], [0, 0, 0]])
        self.assertEqual(table(3, [1, -2]), [[0, 1, 0], [0, 0, 0], [-1, 0, 0]])
        self.assertEqual(table(3, [-2, -1, 1]), [[0, 0, 0], [0, 0, 0], [0, -1, 0]])

    def test_against_strings_followed_one_by_one(self):
        for n, word in sample_words():
            self.assertEqual(self.told_lists(table, n, word), table_by_following(n, word))

    def test_all_short_words(self):
        for n, longest in ((1, 0), (2, 5), (3, 4), (4, 3), (5, 2)):
            for word in all_words(n, longest):
                self.assertEqual(table(n, word), table_by_following(n, word))

    def test_no_string_crosses_itself_and_all_adds_up(self):
        for n, word in sample_words():
            told = table(n, word)
            self.assertEqual([told[a][a] for a in range(n)], [0] * n)
            self.assertEqual(sum(sum(each) for each in told), sum_of(word))


class Rings(CountCase):
    def test_empty_word_has_rings_of_one_string(self):
        for n in range(1, MOST_STRINGS + 1):
            self.assertEqual(self.told_lists(rings, n, []), [[string] for string in range(n)])

    def test_as_written(self):
        self.assertEqual(rings(2, [1]), [[0, 1]])
        self.assertEqual(rings(2, [1, 1]), [[0], [1]])
        # String 0 hangs at place 2 at the bottom, so string 2 comes behind it.
        self.assertEqual(order_of(3, [1, 2]), [1, 2, 0])
        self.assertEqual(rings(3, [1, 2]), [[0, 2, 1]])
        self.assertEqual(rings(3, [2, 1]), [[0, 1, 2]])
        self.assertEqual(rings(4, [1, 2, 3]), [[0, 3, 2, 1]])
        self.assertEqual(rings(4, [3, 2, 1]), [[0, 1, 2, 3]])
        self.assertEqual(rings(4, [2, 1, 2]), [[0, 2], [1], [3]])
        self.assertEqual(rings(5, [1, -3]), [[0, 1], [2, 3], [4]])
        self.assertEqual(rings(7, [1, 2, 5, 6]), [[0, 2, 1], [3], [4, 6, 5]])

    def test_the_longest_rings(self):
        for n in range(1, MOST_STRINGS + 1):
            self.assertEqual(rings(n, list(range(n - 1, 0, -1))), [list(range(n))])
            self.assertEqual(rings(n, list(range(1, n))), [[0] + list(range(n - 1, 0, -1))])

    def test_against_strings_followed_one_by_one(self):
        for n, word in sample_words():
            self.assertEqual(self.told_lists(rings, n, word), rings_by_following(n, word))

    def test_all_short_words(self):
        for n, longest in ((1, 0), (2, 5), (3, 5), (4, 4), (5, 3)):
            for word in all_words(n, longest):
                self.assertEqual(rings(n, word), rings_by_following(n, word))

    def test_order_of_rings_and_strings(self):
        for n, word in sample_words():
            told = rings(n, word)
            self.assertEqual([ring[0] for ring in told], sorted(min(ring) for ring in told))
            self.assertEqual(sorted(string for ring in told for string in ring), list(range(n)))
            order = order_of(n, word)
            for ring in told:
                for one, other in zip(ring, ring[1:] + ring[:1]):
                    self.assertEqual(order[other], one)


class Linked(CountCase):
    def test_empty_word(self):
        for n in range(1, MOST_STRINGS + 1):
            self.assertEqual(self.told_lists(linked, n, []), [[0] * n] * n)

    def test_as_written(self):
        self.assertEqual(linked(2, [1]), [[1]])
        self.assertEqual(linked(2, [-1]), [[-1]])
        self.assertEqual(linked(2, [1, 1]), [[0, 1], [1, 0]])
        self.assertEqual(linked(2, [-1, -1, -1, -1]), [[0, -2], [-2, 0]])
        self.assertEqual(linked(2, [1, 1, 1]), [[3]])
        self.assertEqual(linked(3, [1, 2, 2]), [[1, 1], [1, 0]])
        self.assertEqual(linked(3, [1, -2, -2]), [[1, -1], [-1, 0]])
        self.assertEqual(linked(4, [1, 3, 3, 3]), [[1, 0], [0, 3]])

    def test_against_strings_followed_one_by_one(self):
        for n, word in sample_words():
            self.assertEqual(self.told_lists(linked, n, word), linked_by_following(n, word))

    def test_all_short_words(self):
        for n, longest in ((1, 0), (2, 5), (3, 4), (4, 3), (5, 2)):
            for word in all_words(n, longest):
                self.assertEqual(linked(n, word), linked_by_following(n, word))

    def test_alike_both_ways(self):
        for n, word in sample_words():
            told = linked(n, word)
            for x in range(len(told)):
                for y in range(len(told)):
                    self.assertEqual(told[x][y], told[y][x])

    def test_mirrored_and_turned_words_have_the_other_sign(self):
        for n, word in sample_words((2, 9, 333)):
            less = [[-number for number in each] for each in linked(n, word)]
            self.assertEqual(linked(n, mirrored(word)), less)
            self.assertEqual(profile(n, turned(word)), profile(n, mirrored(word)))


class Profile(CountCase):
    def assert_kinds(self, told):
        self.assertIs(type(told), list)
        for each in told:
            self.assertIs(type(each), tuple)
            self.assertEqual([type(part) for part in each], [int, int, list])
            self.assertTrue(all(type(number) is int for number in each[2]))

    def test_empty_word(self):
        for n in range(1, MOST_STRINGS + 1):
            self.assertEqual(self.told(profile, n, []), [(1, 0, [0] * (n - 1))] * n)

    def test_as_written(self):
        self.assertEqual(profile(1, []), [(1, 0, [])])
        self.assertEqual(profile(2, [1]), [(2, 1, [])])
        self.assertEqual(profile(2, [1, 1]), [(1, 0, [1]), (1, 0, [1])])
        self.assertEqual(profile(3, [1, 2, 2]), [(1, 0, [1]), (2, 1, [1])])
        self.assertEqual(profile(3, [1, 1, -2, -2]), [(1, 0, [-1, 0]), (1, 0, [-1, 1]), (1, 0, [0, 1])])

    def test_rings_of_one_size_in_rising_order(self):
        self.assertEqual(profile(4, [1, 3, 3, 3]), [(2, 1, [0]), (2, 3, [0])])
        self.assertEqual(profile(4, [1, 1, 1, 3]), [(2, 1, [0]), (2, 3, [0])])
        self.assertEqual(profile(4, [1, -3]), [(2, -1, [0]), (2, 1, [0])])
        self.assertEqual(profile(6, [5, 3, -1]), [(2, -1, [0, 0]), (2, 1, [0, 0]), (2, 1, [0, 0])])
        self.assertEqual(profile(6, [-5, 3, 1]), [(2, -1, [0, 0]), (2, 1, [0, 0]), (2, 1, [0, 0])])
        self.assertEqual(profile(3, [2, 2, 2, 2, 1, 1]), [(1, 0, [0, 1]), (1, 0, [0, 2]), (1, 0, [1, 2])])

    def test_against_strings_followed_one_by_one(self):
        for n, word in sample_words():
            told = self.told(profile, n, word)
            self.assert_kinds(told)
            self.assertEqual(told, profile_by_following(n, word))

    def test_all_short_words(self):
        for n, longest in ((1, 0), (2, 5), (3, 4), (4, 3), (5, 2)):
            for word in all_words(n, longest):
                self.assertEqual(profile(n, word), profile_by_following(n, word))

    def test_words_of_rings_of_one_string(self):
        for n in range(2, MOST_STRINGS + 1):
            dice = Dice(n)
            for _ in range(10):
                word = [k for k in thrown_word(n, 30, dice.below(1000)) for _ in range(2)]
                told = profile(n, word)
                self.assertEqual([each[0] for each in told], [1] * n)
                self.assertEqual(told, profile_by_following(n, word))

    def test_flipped_words_have_the_same_profile(self):
        for n, word in sample_words((2, 9, 333)):
            self.assertEqual(profile(n, flipped(n, word)), profile(n, word))


class Exchanges(CountCase):
    def test_none_of_all_that_can_be_done_changes_a_count(self):
        words = [(n, word) for n, longest in ((2, 4), (3, 3), (4, 2)) for word in all_words(n, longest)]
        words.extend(sample_words((0, 1, 2, 5, 9)))
        for n, word in words:
            kept = counts(n, word)
            for move in every_move(n, word):
                self.assertEqual(counts(n, moved(n, word, move)), kept, (n, word, move))

    def test_many_one_behind_the_other(self):
        for n, word in sample_words(BUT_THE_LONGEST):
            kept = counts(n, word)
            for each in walk(n, word, 60, Dice(n + len(word))):
                self.assertEqual(counts(n, each), kept)

    def test_in_the_longest_words(self):
        for n, word in sample_words((3990,)):
            behind = walk(n, word, 20, Dice(n))
            self.assertEqual(counts(n, behind[-1]), counts(n, word))

    def test_a_crossing_more_does_change_them(self):
        for n, word in sample_words((0, 1, 9, 333)):
            for k in crossings(n):
                self.assertNotEqual(sum_of(word + [k]), sum_of(word))
                self.assertNotEqual(table(n, word + [k]), table(n, word))
                self.assertNotEqual(rings(n, word + [k]), rings(n, word))


if __name__ == "__main__":
    unittest.main()
