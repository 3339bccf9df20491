"""Point 52: braidcomb/ways.py."""

import unittest

from braidcomb.counts import sum_of
from braidcomb.errors import Unlike
from braidcomb.forms import form, form_word
from braidcomb.moves import moved, moves_of
from braidcomb.rows import half, row_word
from braidcomb.ways import way
from braidcomb.words import flipped, mirrored, order_of, turned, upturned
from tests.hanging import hanging
from tests.samples import (
    MOST_STRINGS, BraidCase, Dice, all_words, crossings, every_move, is_move, sample_words, thrown_word, walk, walked,
)

LONGEST = 24
# The first ones have one order and one sum; the last ones have not.
NOT_THE_SAME = (
    (3, [1, 1, 2, 2], [2, 2, 1, 1]),
    (3, [1, -2, 1, -2, 1, -2], []),
    (3, [1, -2, -2, 1], [-2, 1, 1, -2]),
    (3, [1, 1, 2, 2, -1, -1, -2, -2], []),
    (4, [1, 1, 3, 2, 2], [2, 2, 1, 1, 3]),
    (4, [2, 2, 1, 1], [1, 1, 2, 2]),
    (7, [6, 6, 5, 5], [5, 5, 6, 6]),
    (2, [1], [-1]),
    (2, [1, 1], []),
    (3, [1], [2]),
    (3, [1, 2], [2, 1]),
)


def joined_by_exchanges(n, word, many, dice):
    """Words of at most 24 crossings to which drawn exchanges lead from a word."""
    return [each for each in walk(n, word, many, dice) if len(each) <= LONGEST]


def shuffled(n, word, many, dice):
    """A word to which drawn exchanges lead that put nothing in and take nothing out."""
    now = list(word)
    for _ in range(many):
        choice = [move for move in moves_of(now) if move[0] != "out"]
        if choice:
            now = moved(n, now, choice[dice.below(len(choice))])
    return now


class WayCase(BraidCase):
    def assert_way(self, n, one, other):
        moves = self.told(way, n, one, other)
        self.assertIs(type(moves), list)
        self.assertTrue(all(is_move(move) for move in moves))
        self.assertEqual(walked(n, one, moves), other)
        if one == other:
            self.assertEqual(moves, [])

    def assert_ways(self, n, one, other):
        self.assert_way(n, one, other)
        self.assert_way(n, other, one)


class Ways(WayCase):
    def test_empty_words(self):
        for n in range(1, MOST_STRINGS + 1):
            self.assertEqual(self.told(way, n, [], []), [])

    def test_equal_lists(self):
        for n, word in sample_words((0, 1, 2, 3, 9, 23, 24)):
            self.assertEqual(self.told(way, n, word, list(word)), [])
            self.assertEqual(way(n, word, word), [])

    def test_one_exchange(self):
        for n, word in sample_words((0, 1, 2, 3, 5, 9, 22)):
            for move in every_move(n, word):
                self.assert_ways(n, word, moved(n, word, move))

    def test_each_kind_of_exchange(self):
        for one, other in (
            ([1, 3], [3, 1]), ([1, -3], [-3, 1]), ([1, 2, 1], [2, 1, 2]), ([-1, -2, -1], [-2, -1, -2]),
            ([1, -1], []), ([-1, 1], []), ([2, 1, -1, 3], [2, 3]), ([1, 2, -1], [-2, 1, 2]), ([-1, 2, 1], [2, 1, -2]),
        ):
            self.assert_ways(4, one, other)

    def test_many_exchanges(self):
        for n in range(2, MOST_STRINGS + 1):
            for length in (0, 1, 4, 10, 20, 24):
                for seed in range(6):
                    word = thrown_word(n, length, seed)
                    found = joined_by_exchanges(n, word, 60, Dice(100 * n + length + seed))
                    for other in found[1::9] + found[-1:]:
                        self.assert_ways(n, word, other)

    def test_words_above_nought(self):
        for n in range(3, MOST_STRINGS + 1):
            for seed in range(10):
                word = [abs(k) for k in thrown_word(n, LONGEST, seed)]
                for many in (5, 200):
                    other = shuffled(n, word, many, Dice(seed + n))
                    self.assert_ways(n, word, other)
                    self.assert_ways(n, mirrored(word), mirrored(other))

    def test_long_words_of_either_sign(self):
        for n in range(3, MOST_STRINGS + 1):
            for seed in range(10):
                word = thrown_word(n, LONGEST, seed)
                self.assert_ways(n, word, shuffled(n, word, 200, Dice(seed + n)))

    def test_words_that_reach_the_word_of_their_form(self):
        reached = 0
        for n in range(1, MOST_STRINGS + 1):
            for length in range(0, LONGEST + 1):
                for word in (thrown_word(n, length), [abs(k) for k in thrown_word(n, length)]):
                    other = form_word(n, form(n, word))
                    if len(other) <= LONGEST:
                        self.assert_ways(n, word, other)
                        reached += 1
        self.assertGreater(reached, 150)

    def test_a_word_and_its_turned_one_to_the_empty_word(self):
        for n, word in sample_words((0, 1, 2, 3, 5, 9, 11, 12)):
            self.assert_ways(n, word + turned(word), [])
            self.assert_ways(n, turned(word) + word, [])
            self.assert_ways(n, turned(word) + word, word + turned(word))
            for other in walk(n, word, 10, Dice(n))[-3:]:
                if len(word + other) <= LONGEST:
                    self.assert_ways(n, word + turned(other), [])
                    self.assert_ways(n, turned(other) + word, [])

    def test_half_turns(self):
        for n in range(2, MOST_STRINGS + 1):
            turn = row_word(half(n))
            for other in (upturned(turn), flipped(n, turn), flipped(n, upturned(turn))):
                self.assert_ways(n, turn, other)
                self.assert_ways(n, turned(turn), turned(other))
            for k in crossings(n):
                self.assert_ways(n, turn + [k], flipped(n, [k]) + turn)
                self.assert_ways(n, turned(turn) + [k], flipped(n, [k]) + turned(turn))

    def test_whole_turns_go_past_all(self):
        for n, longest in ((2, 11), (3, 9), (4, 6)):
            turn = row_word(half(n)) * 2
            for length in (1, 3, longest):
                word = thrown_word(n, length)
                self.assert_ways(n, turn + word, word + turn)
                self.assert_ways(n, turned(turn) + word, word + turned(turn))

    def test_words_that_take_many_exchanges(self):
        for n, a, b in ((3, 1, 2), (5, 2, 3), (7, 3, 4), (7, 6, 5)):
            word = [-a] * 6 + [b] * 6
            self.assert_ways(n, word + turned(word), [])
        for n in range(3, MOST_STRINGS + 1):
            # One string goes round all others, so what these do among themselves goes past it.
            stairs = list(range(1, n)) + list(range(n - 1, 0, -1))
            for k in range(2, n):
                self.assert_ways(n, stairs + [k], [k] + stairs)
                self.assert_ways(n, turned(stairs) + [k], [k] + turned(stairs))

    def test_somewhat_longer_words(self):
        for n, word in sample_words((26, 30)):
            self.assert_ways(n, word, shuffled(n, word, 200, Dice(n)))
            self.assert_ways(n, word, moved(n, word, ("in", 3, 1)) if n > 1 else word)


class NotTheSame(WayCase):
    def test_as_written(self):
        for n, one, other in NOT_THE_SAME:
            self.refused(Unlike, way, n, one, other)
            self.refused(Unlike, way, n, other, one)

    def test_of_one_order_and_one_sum(self):
        for n, one, other in NOT_THE_SAME[:7]:
            self.assertEqual(order_of(n, one), order_of(n, other))
            self.assertEqual(sum_of(one), sum_of(other))
            self.assertNotEqual(hanging(n, one), hanging(n, other))

    def test_every_two_short_words(self):
        for n, longest in ((1, 0), (2, 5), (3, 3), (4, 2), (5, 2)):
            words = all_words(n, longest)
            hung = [hanging(n, word) for word in words]
            for one, one_hung in zip(words, hung):
                for other, other_hung in zip(words, hung):
                    if one_hung == other_hung:
                        self.assert_way(n, one, other)
                    else:
                        self.refused(Unlike, way, n, one, other)

    def test_a_crossing_more(self):
        for n, word in sample_words((0, 1, 9, 23)):
            for k in crossings(n):
                self.refused(Unlike, way, n, word, word + [k])
                self.refused(Unlike, way, n, [k] + word, word)

    def test_long_words_with_one_order_and_one_sum(self):
        for n in range(3, MOST_STRINGS + 1):
            for seed in range(10):
                word = thrown_word(n, 20, seed)
                one = word + [1, 1, 2, 2]
                other = word + [2, 2, 1, 1]
                self.refused(Unlike, way, n, one, other)
                self.refused(Unlike, way, n, other, one)
                self.refused(Unlike, way, n, one, shuffled(n, other, 50, Dice(seed)))

    def test_a_way_is_told_behind_a_refusal_as_before_it(self):
        before = way(3, [1, 2, 1], [2, 1, 2])
        self.refused(Unlike, way, 3, [1, 1, 2, 2], [2, 2, 1, 1])
        self.assertEqual(way(3, [1, 2, 1], [2, 1, 2]), before)
        self.assert_ways(3, [1, 2, 1], [2, 1, 2])
        self.refused(Unlike, way, 3, [1, 2, 1], [2, 1])
        self.assertEqual(way(3, [], []), [])


if __name__ == "__main__":
    unittest.main()
