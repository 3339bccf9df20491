"""Points 31 to 35: braidcomb/rows.py."""

import unittest

from braidcomb.errors import NoRow
from braidcomb.rows import (
    ahead, behind, checked_row, flipped_row, half, row_of, row_word, slid, starts, stops, straight,
)
from braidcomb.words import flipped, order_of
from tests.hanging import hanging
from tests.samples import (
    MOST_STRINGS, VAST, BraidCase, Dice, above_words, all_rows, all_words, crossings, thrown_row, thrown_rows,
    thrown_word,
)

FEW = (1, 2, 3, 4, 5)
MANY = (6, 7)


def crossed_pairs(n, word):
    """The two strings of each crossing of a word, the lesser one first."""
    order = list(range(n))
    pairs = []
    for k in word:
        p = abs(k)
        pairs.append((min(order[p - 1], order[p]), max(order[p - 1], order[p])))
        order[p - 1], order[p] = order[p], order[p - 1]
    return pairs


def is_word_of_a_row(n, word):
    pairs = crossed_pairs(n, word)
    return all(k > 0 for k in word) and len(set(pairs)) == len(pairs)


def words_by_row(n):
    """All words in which no two strings cross twice, by their rows."""
    found = {}
    level = [[]]
    while level:
        for word in level:
            found.setdefault(tuple(order_of(n, word)), []).append(word)
        longer = [word + [k] for word in level for k in range(1, n)]
        level = [word for word in longer if is_word_of_a_row(n, word)]
    return found


ROW_WORDS = {n: words_by_row(n) for n in FEW}


def pairs_of_row(row):
    """The strings that cross, as point 31 tells them."""
    n = len(row)
    return sorted((a, b) for a in range(n) for b in range(a + 1, n) if row.index(b) < row.index(a))


class RowCase(BraidCase):
    def told_row(self, deed, *given):
        row = self.told_word(deed, *given)
        self.assertIs(checked_row(row), True)
        return row

    def assert_word_of(self, row, word):
        n = len(row)
        self.assertTrue(is_word_of_a_row(n, word))
        self.assertEqual(order_of(n, word), row)
        self.assertEqual(sorted(crossed_pairs(n, word)), pairs_of_row(row))


class CheckedRow(RowCase):
    def test_every_row(self):
        for n in range(1, MOST_STRINGS + 1):
            for row in all_rows(n):
                self.assertIs(checked_row(row), True)

    def test_nothing_is_changed(self):
        for n in range(1, MOST_STRINGS + 1):
            for row in thrown_rows(n, 20):
                self.told(checked_row, row)

    def test_none_and_too_many_numbers(self):
        self.refused(NoRow, checked_row, [])
        for many in (8, 9, 10, 100, 5000):
            self.refused(NoRow, checked_row, list(range(many)))
            self.refused(NoRow, checked_row, list(range(many - 1, -1, -1)))
            self.refused(NoRow, checked_row, [0] * many)
        self.refused(NoRow, checked_row, [0, 1, 2, 3, 4, 5, 6, 6])

    def test_a_wrong_number_at_each_place(self):
        for n in range(1, MOST_STRINGS + 1):
            for row in thrown_rows(n, 10) + [straight(n), half(n)]:
                for place in range(n):
                    others = [number for number in row if number != row[place]]
                    for wrong in others + [n, n + 1, -1, -n, row[place] - n, 10 ** 30, -10 ** 30, VAST, -VAST]:
                        self.refused(NoRow, checked_row, row[:place] + [wrong] + row[place + 1:])

    def test_a_number_left_out_or_put_in(self):
        for n in range(1, MOST_STRINGS + 1):
            for row in thrown_rows(n, 10):
                for number in range(n - 1):
                    self.refused(NoRow, checked_row, [each for each in row if each != number])
                for number in range(n):
                    self.refused(NoRow, checked_row, row + [number])

    def test_rows_that_begin_with_one(self):
        for n in range(1, MOST_STRINGS + 1):
            self.refused(NoRow, checked_row, list(range(1, n + 1)))


class StraightAndHalf(RowCase):
    def test_as_written(self):
        self.assertEqual(straight(1), [0])
        self.assertEqual(half(1), [0])
        self.assertEqual(straight(4), [0, 1, 2, 3])
        self.assertEqual(half(4), [3, 2, 1, 0])
        for n in range(1, MOST_STRINGS + 1):
            self.assertEqual(self.told_row(straight, n), sorted(straight(n)))
            self.assertEqual(self.told_row(half, n), sorted(straight(n), reverse=True))

    def test_no_and_each_two_strings_cross(self):
        for n in range(1, MOST_STRINGS + 1):
            every = [(a, b) for a in range(n) for b in range(a + 1, n)]
            self.assertEqual(sorted(crossed_pairs(n, row_word(straight(n)))), [])
            self.assertEqual(sorted(crossed_pairs(n, row_word(half(n)))), every)


class StartsAndStops(RowCase):
    def test_as_written(self):
        self.assertEqual(starts([1, 2, 0]), [1])
        self.assertEqual(stops([1, 2, 0]), [2])
        self.assertEqual(starts([2, 0, 1]), [2])
        self.assertEqual(stops([2, 0, 1]), [1])
        self.assertEqual(starts([1, 0, 3, 2]), [1, 3])
        self.assertEqual(stops([1, 0, 3, 2]), [1, 3])
        self.assertEqual(starts([2, 3, 0, 1]), [2])
        self.assertEqual(stops([2, 3, 0, 1]), [2])

    def test_straight_and_half(self):
        for n in range(1, MOST_STRINGS + 1):
            for deed in (starts, stops):
                self.assertEqual(self.told_word(deed, straight(n)), [])
                self.assertEqual(self.told_word(deed, half(n)), list(range(1, n)))

    def test_against_all_words_of_each_row(self):
        for n in FEW:
            for row in all_rows(n):
                words = [word for word in ROW_WORDS[n][tuple(row)] if word]
                self.assertEqual(self.told_word(starts, row), sorted({word[0] for word in words}))
                self.assertEqual(self.told_word(stops, row), sorted({word[-1] for word in words}))

    def test_place_by_place_with_more_strings(self):
        for n in MANY:
            for row in thrown_rows(n, 200):
                behind_ones = [k for k in range(1, n) if row.index(k - 1) > row.index(k)]
                self.assertEqual(self.told_word(starts, row), behind_ones)
                self.assertEqual(self.told_word(stops, row), [k for k in range(1, n) if row[k - 1] > row[k]])


class RowWord(RowCase):
    def test_as_written(self):
        self.assertEqual(row_word([0]), [])
        self.assertEqual(row_word([1, 0]), [1])
        self.assertEqual(row_word([1, 2, 0]), [1, 2])
        self.assertEqual(row_word([2, 1, 0]), [1, 2, 1])
        self.assertEqual(row_word([0, 1, 3, 2]), [3])
        self.assertEqual(row_word([1, 0, 3, 2]), [1, 3])
        self.assertEqual(row_word([3, 2, 1, 0]), [1, 2, 1, 3, 2, 1])

    def test_straight(self):
        for n in range(1, MOST_STRINGS + 1):
            self.assertEqual(self.told_word(row_word, straight(n)), [])

    def test_the_first_one_of_all_words_of_each_row(self):
        for n in FEW:
            self.assertEqual(len(ROW_WORDS[n]), len(all_rows(n)))
            for row in all_rows(n):
                self.assertEqual(self.told_word(row_word, row), min(ROW_WORDS[n][tuple(row)]))

    def test_words_of_rows_of_more_strings(self):
        for n in MANY:
            for row in thrown_rows(n, 200):
                self.assert_word_of(row, self.told_word(row_word, row))

    def test_first_ones_with_more_strings(self):
        # A word is the first one where it begins with the least crossing it can, and so does what is left of it.
        for n in MANY:
            for row in thrown_rows(n, 100) + [half(n)]:
                word = row_word(row)
                for place in range(len(word)):
                    left = order_of(n, word[place:])
                    least = min(k for k in range(1, n) if left.index(k - 1) > left.index(k))
                    self.assertEqual(word[place], least)


class RowOf(RowCase):
    def test_empty_word(self):
        for n in range(1, MOST_STRINGS + 1):
            self.assertEqual(self.told_row(row_of, n, []), straight(n))

    def test_each_crossing(self):
        for n in range(2, MOST_STRINGS + 1):
            for k in range(1, n):
                self.assertEqual(self.told_row(row_of, n, [k]), order_of(n, [k]))
                self.refused(NoRow, row_of, n, [-k])
                self.refused(NoRow, row_of, n, [k, k])
                self.refused(NoRow, row_of, n, [k, -k])
                self.refused(NoRow, row_of, n, [-k, k])

    def test_each_word_of_each_row(self):
        for n in FEW:
            for row, words in ROW_WORDS[n].items():
                for word in words:
                    self.assertEqual(self.told_row(row_of, n, word), list(row))

    def test_of_row_word_with_more_strings(self):
        for n in MANY:
            for row in thrown_rows(n, 200):
                self.assertEqual(self.told_row(row_of, n, row_word(row)), row)

    def test_all_short_words(self):
        for n, longest in ((1, 0), (2, 4), (3, 5), (4, 4), (5, 3)):
            for word in all_words(n, longest):
                if is_word_of_a_row(n, word):
                    self.assertEqual(row_of(n, word), order_of(n, word))
                else:
                    self.refused(NoRow, row_of, n, word)

    def test_words_above_nought(self):
        for n, length in ((3, 4), (3, 7), (4, 6), (4, 7)):
            for word in above_words(n, length):
                if is_word_of_a_row(n, word):
                    self.assertEqual(row_of(n, word), order_of(n, word))
                else:
                    self.refused(NoRow, row_of, n, word)

    def test_a_crossing_more_behind_a_row(self):
        for n in MANY:
            for row in thrown_rows(n, 100):
                word = row_word(row)
                for k in range(1, n):
                    self.refused(NoRow, row_of, n, word + [-k])
                    self.refused(NoRow, row_of, n, [-k] + word)
                    if row[k - 1] > row[k]:
                        self.refused(NoRow, row_of, n, word + [k])
                    else:
                        self.assertEqual(row_of(n, word + [k]), order_of(n, word + [k]))

    def test_strings_that_cross_twice_far_apart(self):
        self.refused(NoRow, row_of, 3, [1, 2, 2])
        self.refused(NoRow, row_of, 3, [1, 2, 1, 2])
        self.refused(NoRow, row_of, 4, [1, 3, 1])
        self.refused(NoRow, row_of, 5, [1, 3, 4, 1])
        self.refused(NoRow, row_of, 7, row_word(half(7)) + [6])

    def test_long_words(self):
        for n in range(2, MOST_STRINGS + 1):
            for length in (40, 4000):
                self.refused(NoRow, row_of, n, thrown_word(n, length))
                self.refused(NoRow, row_of, n, [abs(k) for k in thrown_word(n, length)])


class AheadAndBehind(RowCase):
    def test_as_written(self):
        self.assertEqual(ahead([0]), [0])
        self.assertEqual(behind([0]), [0])
        # 1, 2 and behind it 1; 2 and behind it 1, 2.
        self.assertEqual(behind([1, 2, 0]), [1, 0, 2])
        self.assertEqual(ahead([1, 2, 0]), [0, 2, 1])

    def test_straight_and_half(self):
        for n in range(1, MOST_STRINGS + 1):
            for deed in (ahead, behind):
                self.assertEqual(self.told_row(deed, straight(n)), half(n))
                self.assertEqual(self.told_row(deed, half(n)), straight(n))

    def test_words_of_the_half_turn(self):
        for n in FEW:
            for row in all_rows(n):
                turns = ROW_WORDS[n][tuple(half(n))]
                ahead_words = ROW_WORDS[n][tuple(self.told_row(ahead, row))][:6]
                behind_words = ROW_WORDS[n][tuple(self.told_row(behind, row))][:6]
                for word in ROW_WORDS[n][tuple(row)][:6]:
                    for each in ahead_words:
                        self.assertIn(each + word, turns)
                    for each in behind_words:
                        self.assertIn(word + each, turns)

    def test_with_more_strings(self):
        for n in MANY:
            for row in thrown_rows(n, 200):
                self.assert_word_of(half(n), row_word(self.told_row(ahead, row)) + row_word(row))
                self.assert_word_of(half(n), row_word(row) + row_word(self.told_row(behind, row)))


class FlippedRow(RowCase):
    def test_as_written(self):
        self.assertEqual(flipped_row([0]), [0])
        self.assertEqual(flipped_row([1, 0, 2]), [0, 2, 1])
        self.assertEqual(flipped_row([1, 2, 0]), [2, 0, 1])

    def test_flipped_words_of_each_row(self):
        for n in FEW:
            for row in all_rows(n):
                told = self.told_row(flipped_row, row)
                flipped_words = [flipped(n, word) for word in ROW_WORDS[n][tuple(row)]]
                self.assertEqual(sorted(flipped_words), sorted(ROW_WORDS[n][tuple(told)]))

    def test_with_more_strings(self):
        for n in MANY:
            for row in thrown_rows(n, 200):
                self.assert_word_of(self.told_row(flipped_row, row), flipped(n, row_word(row)))

    def test_straight_and_half(self):
        for n in range(1, MOST_STRINGS + 1):
            self.assertEqual(self.told_row(flipped_row, straight(n)), straight(n))
            self.assertEqual(self.told_row(flipped_row, half(n)), half(n))


def gone_over(one, other, k):
    """The two rows once crossing k has gone over, as point 35 tells it."""
    first = list(one)
    first[k - 1], first[k] = first[k], first[k - 1]
    swap = {k - 1: k, k: k - 1}
    return (first, [swap.get(number, number) for number in other])


def can_go(one, other):
    return [k for k in starts(other) if k not in stops(one)]


def all_ends(one, other):
    """What is left in the end, along each way of choosing which crossing goes first."""
    seen = []
    ahead_of = [(one, other)]
    ends = []
    while ahead_of:
        pair = ahead_of.pop()
        if pair in seen:
            continue
        seen.append(pair)
        free = can_go(*pair)
        ahead_of.extend(gone_over(*pair, k) for k in free)
        if not free:
            ends.append(pair)
    return ends


class Slid(RowCase):
    def told_slid(self, one, other):
        told = self.told(slid, one, other)
        self.assertIs(type(told), tuple)
        self.assertEqual([type(row) for row in told], [list, list])
        for row in told:
            self.assertIs(checked_row(row), True)
            self.assertEqual(len(row), len(one))
        return told

    def assert_slid(self, one, other):
        n = len(one)
        told = self.told_slid(one, other)
        self.assertEqual(can_go(*told), [])
        self.assertEqual(slid(*told), told)
        ahead_word = row_word(one) + row_word(other)
        behind_word = row_word(told[0]) + row_word(told[1])
        self.assertEqual(len(behind_word), len(ahead_word))
        self.assertEqual(hanging(n, behind_word), hanging(n, ahead_word))
        return told

    def test_as_written(self):
        self.assertEqual(slid([0, 1, 2], [1, 0, 2]), ([1, 0, 2], [0, 1, 2]))
        self.assertEqual(slid([1, 0, 2], [1, 0, 2]), ([1, 0, 2], [1, 0, 2]))
        self.assertEqual(slid([1, 0, 2], [0, 2, 1]), ([1, 2, 0], [0, 1, 2]))
        self.assertEqual(slid([1, 0, 2], [2, 0, 1]), ([2, 1, 0], [0, 1, 2]))
        self.assertEqual(slid([0, 2, 1], [1, 2, 0]), ([2, 1, 0], [0, 1, 2]))
        self.assertEqual(slid([1, 0, 2, 3], [1, 0, 3, 2]), ([1, 0, 3, 2], [1, 0, 2, 3]))

    def test_every_two_rows_of_few_strings(self):
        for n in (1, 2, 3, 4):
            for one in all_rows(n):
                for other in all_rows(n):
                    told = self.assert_slid(one, other)
                    self.assertEqual(all_ends(one, other), [told])

    def test_one_and_the_same_list_twice(self):
        for n in range(1, MOST_STRINGS + 1):
            for row in thrown_rows(n, 10):
                self.assertEqual(slid(row, row), slid(row, list(row)))

    def test_with_more_strings(self):
        for n in (5, 6, 7):
            dice = Dice(n)
            for _ in range(150):
                self.assert_slid(thrown_row(n, dice), thrown_row(n, dice))

    def test_whichever_goes_first_with_more_strings(self):
        for n in (5, 6, 7):
            dice = Dice(n + 10)
            for _ in range(150):
                one = thrown_row(n, dice)
                other = thrown_row(n, dice)
                pair = (one, other)
                while can_go(*pair):
                    free = can_go(*pair)
                    pair = gone_over(*pair, free[dice.below(len(free))])
                self.assertEqual(slid(one, other), pair)

    def test_straight_and_half(self):
        for n in range(1, MOST_STRINGS + 1):
            for row in thrown_rows(n, 20):
                self.assertEqual(self.told_slid(straight(n), row), (row, straight(n)))
                self.assertEqual(self.told_slid(row, straight(n)), (row, straight(n)))
                self.assertEqual(self.told_slid(half(n), row), (half(n), row))
                self.assertEqual(self.told_slid(row, half(n)), (half(n), flipped_row(row)))
                self.assertEqual(self.told_slid(row, behind(row)), (half(n), straight(n)))
                self.assertEqual(self.told_slid(ahead(row), row), (half(n), straight(n)))


class Crossings(RowCase):
    def test_rows_have_crossings_alone_that_strings_have(self):
        for n in range(1, MOST_STRINGS + 1):
            for row in thrown_rows(n, 20):
                for k in row_word(row) + starts(row) + stops(row):
                    self.assertIn(k, crossings(n))


if __name__ == "__main__":
    unittest.main()
